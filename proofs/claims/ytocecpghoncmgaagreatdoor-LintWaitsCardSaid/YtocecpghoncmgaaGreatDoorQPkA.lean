import Derived.Test.YtocecpghoncmgaaGreatDoorQh
import Derived.Test.YtocecpghoncmgaaGreatDoorQLnP
import Derived.Test.YtocecpghoncmgaaGreatDoorQXA
import Derived.Maps.OwnSet
import Derived.Test.YtocecpghoncmgaaGreatDoorQVaX
import Derived.Test.YtocecpghoncmgaaGreatDoorQEB
import Derived.Test.YtocecpghoncmgaaGreatDoorQPrD
set_option maxHeartbeats 12800000
set_option maxRecDepth 20000
namespace Go.Proofs.YtocecpghoncmgaaGreatDoor
open Go.RowKit
def adv (f:Int×Int) (l:List (Int×Int)):Int×Int:=if f.1=0 then l.headD f else f
theorem adv_nil (f:Int×Int):adv f []=f:=by unfold adv;split <;> rfl
theorem adv_app {l:List (Int×Int)} (f:Int×Int) (m:List (Int×Int)) (h:∀x∈l,x.1≠0):adv f (l++m)=adv (adv f l) m:=by
 cases l with
 |nil=>rw [List.nil_append,adv_nil]
 |cons x l =>
  have hx:=h x (List.mem_cons_self ..);unfold adv
  by_cases c:f.1=0
  ·rw [if_pos c,if_pos c];simp [hx]
  ·rw [if_neg c,if_neg c,if_neg c]
theorem adv_one (f:Int×Int) (x:Int×Int) (q:Bool):adv f (if q=true then [] else [x])=if (!q&&decide (f.1=0))=true then x else f:=by
 unfold adv
 cases q with
 |true=>simp
 |false=>by_cases c:f.1=0 <;> simp [c]
mutual
def pre:GN->List GN
 |.mk k nm ini dft en le mo ks p=>.mk k nm ini dft en le mo ks p::pres ks
def pres:List GN->List GN
 |[]=>[]
 |x::l=>pre x++pres l
end
mutual
theorem pre_len:∀x:GN,(pre x).length=nN x
 |.mk k nm ini dft en le mo ks p=>by rw [pre,nN,List.length_cons,pres_len ks,Nat.add_comm]
theorem pres_len:∀l:List GN,(pres l).length=nNs l
 |[]=>by rw [pres,nNs];rfl
 |x::l=>by rw [pres,nNs,List.length_append,pre_len x,pres_len l]
end
theorem pres_app:∀l m:List GN,pres (l++m)=pres l++pres m
 |[],m=>by rw [List.nil_append,pres,List.nil_append]
 |x::l,m=>by rw [List.cons_append,pres,pres_app l m,pres,a_]
def isSt (k:Int):Bool:=decide (k=1) || decide (k=2)
mutual
theorem ok_kinds:∀(d:Nat) (x:GN),okN d x=true->∀y∈pre x,okN d y=true∨∃e,okN e y=true
 |0,x,h=>by rw [okN] at h;cases h
 |d+1,.mk k nm ini dft en le mo ks p,h=>by
  intro y hy;rw [pre] at hy;rcases List.mem_cons.1 hy with rfl|hy
  ·exact .inl h
  ·rw [okN,Bool.and_eq_true] at h;obtain ⟨_,h⟩:=h
   split at h
   ·simp only [Bool.and_eq_true,List.isEmpty_iff] at h;rw [h.2,pres] at hy;cases hy
   ·simp only [Bool.and_eq_true] at h;exact .inr (oks_kinds d ks h.2 y hy)
theorem oks_kinds:∀(d:Nat) (l:List GN),okNs d l=true->∀y∈pres l,∃e,okN e y=true
 |d,[],h=>by intro y hy;rw [pres] at hy;cases hy
 |d,x::l,h=>by
  intro y hy;rw [pres] at hy;rw [okNs,Bool.and_eq_true] at h;rcases List.mem_append.1 hy with hy|hy
  ·rcases ok_kinds d x h.1 y hy with h|h
   ·exact ⟨d,h⟩
   ·exact h
  ·exact oks_kinds d l h.2 y hy
end
def owF (V:List (List UInt8)) (F:List Spt) (i:Nat):GN->List (Int×Int)
 |.mk k nm ini dft en le mo ks p=>ownFt F i (.mk k nm ini dft en le mo ks p)++(acsF V F en++(acsF V F le++mvsF V F mo))
def owL (V:List (List UInt8)) (F:List Spt):Nat->List GN->List (Int×Int)
 |_,[]=>[]
 |i,x::l=>owF V F i x++owL V F (i+1) l
theorem owL_app (V:List (List UInt8)) (F:List Spt):∀(l m:List GN) (i:Nat),owL V F i (l++m)=owL V F i l++owL V F (i+l.length) m
 |[],m,i=>rfl
 |x::l,m,i=>by
  rw [List.cons_append,owL,owL_app V F l m,owL,a_,List.length_cons,Nat.add_right_comm,Nat.add_assoc]
mutual
theorem ndF_ow (V:List (List UInt8)) (F:List Spt):∀(x:GN) (i:Nat),ndF V F i x=owL V F i (pre x)
 |.mk k nm ini dft en le mo ks p,i=>by rw [ndF,pre,owL,ndsF_ow V F ks,owF];simp only [a_]
theorem ndsF_ow (V:List (List UInt8)) (F:List Spt):∀(l:List GN) (i:Nat),ndsF V F i l=owL V F i (pres l)
 |[],i=>by rw [ndsF,pres];rfl
 |x::l,i=>by rw [ndsF,pres,owL_app,ndF_ow V F x,ndsF_ow V F l,pre_len]
end
theorem owF_ne (V:List (List UInt8)) (F:List Spt) (i:Nat):∀(x:GN),∀f∈owF V F i x,f.1≠0
 |.mk k nm ini dft en le mo ks p,f,hf=>by
  rw [owF] at hf;rcases List.mem_append.1 hf with hf|hf
  ·exact ownFt_ne F i _ f hf
  ·rcases List.mem_append.1 hf with hf|hf
   ·exact acsF_ne V F _ f hf
   ·rcases List.mem_append.1 hf with hf|hf
    ·exact acsF_ne V F _ f hf
    ·exact mvsF_ne V F _ f hf
def dbL (F:List Spt):Nat->List GN->List (Int×Int)
 |_,[]=>[]
 |i,x::l=>(if decide (findN F x.nm=some i)=true then [] else [(24,x.p)])++dbL F (i+1) l
mutual
theorem ats_pre:∀x:GN,atsN x=(pre x).map GN.p
 |.mk k nm ini dft en le mo ks p=>by rw [atsN,pre,List.map_cons,ats_pres ks];rfl
theorem ats_pres:∀l:List GN,atsNs l=(pres l).map GN.p
 |[]=>by rw [atsNs,pres];rfl
 |x::l=>by rw [atsNs,pres,List.map_append,ats_pre x,ats_pres l]
end
mutual
theorem lay_nm:∀(x:GN) (p d:Int) (a:Nat),(layN x p d a).map (λ s=>(s.kind,s.name))=(pre x).map (λ y=>(y.kind,y.nm))
 |.mk k nm ini dft en le mo ks q,p,d,a=>by rw [layN,pre,List.map_cons,List.map_cons,lays_nm ks];rfl
theorem lays_nm:∀(l:List GN) (p d:Int) (a:Nat),(layNs l p d a).map (λ s=>(s.kind,s.name))=(pres l).map (λ y=>(y.kind,y.nm))
 |[],p,d,a=>by rw [layNs,pres];rfl
 |x::l,p,d,a=>by rw [layNs,pres,List.map_append,List.map_append,lay_nm x,lays_nm l]
end
def FitL (L:List GN) (F:List Spt):Prop:=F.map (λ s=>(s.kind,s.name))=L.map (λ y=>(y.kind,y.nm))
theorem FitL.len {L:List GN} {F:List Spt} (h:FitL L F):F.length=L.length:=by
 have:=congrArg List.length h;simpa using this
theorem FitL.at_ {L:List GN} {F:List Spt} (h:FitL L F) {i:Nat} {x:GN} (hx:L[i]?=some x):∃s,F[i]?=some s/\s.kind=x.kind/\s.name=x.nm:=by
 have h1:=congrArg (λ l=>l[i]?) h;simp only [List.getElem?_map,hx,Option.map_some] at h1;obtain ⟨s,hs,h2⟩:=Option.map_eq_some_iff.1 h1;injection h2 with a b;exact ⟨s,hs,a,b⟩
theorem dbN_ow {F:List Spt} {L:List GN} (h:FitL L F):dbN F (L.map GN.p)=dbL F 0 L:=by
 have key:∀(l:List GN) (i:Nat),l=L.drop i->(List.range' i (F.length-i)).flatMap (λ i=>match F[i]? with|some s=>if findN F s.name=some i then [] else [((24:Int),(L.map GN.p).getD i 0)]|none=>[])=dbL F i l:=by
  intro l
  induction l with
  |nil =>
   intro i hl
   have:F.length-i=0:=by
    have:=congrArg List.length hl;rw [List.length_drop,List.length_nil] at this;rw [h.len];omega
   rw [this];rfl
  |cons x l ih =>
   intro i hl
   have hx:L[i]?=some x:=by
    have:=congrArg (λ l=>l[0]?) hl;simp only [z_,List.getElem?_drop,Nat.add_zero] at this;exact this.symm
   have hd:l=L.drop (i+1):=by
    have:=congrArg List.tail hl;rw [List.tail_cons,List.tail_drop] at this;exact this
   have hi:=(List.getElem?_eq_some_iff.1 hx).1;obtain ⟨s,hs,_,hn⟩:=h.at_ hx;have h3:=h.len;rw [show F.length-i=(F.length-(i+1))+1 from by omega,List.range'_succ,List.flatMap_cons,ih (i+1) hd,dbL,hs];simp only [hn,List.getD_eq_getElem?_getD,List.getElem?_map,hx,Option.map_some,Option.getD_some,decide_eq_true_eq]
 have:=key L 0 rfl;unfold dbN;rw [List.range_eq_range'];exact this
theorem dbL_ne (F:List Spt):∀(l:List GN) (i:Nat),∀f∈dbL F i l,f.1≠0
 |[],i,f,hf=>by cases hf
 |x::l,i,f,hf=>by
  rcases List.mem_append.1 (show f∈_++dbL F (i+1) l from hf) with hf|hf
  ·split at hf
   ·cases hf
   ·rw [List.mem_singleton.1 hf];simp
  ·exact dbL_ne F l _ f hf
theorem layN_fits (x:GN):FitL (pre x) (layN x (-1) 0 0):=lay_nm x _ _ _
theorem faults_ow (c:GC):faults c=dbL (spF c) 0 (pre c.root)++(dbV [] c.vars++owL (c.vars.map (·.name)) (spF c) 0 (pre c.root)):=by
 unfold faults;rw [ats_pre,show dbN (spF c) ((pre c.root).map GN.p)=_ from dbN_ow (layN_fits c.root),ndF_ow]
theorem find_take {F:List Spt} (s:List UInt8) (i:Nat) (x:Spt) (hx:F[i]?=some x):findN (F.take (i+1)) s=match findN (F.take i) s with|some j=>some j|none=>if x.name=s then some i else none:=by
 have hi:=(List.getElem?_eq_some_iff.1 hx).1;unfold findN;rw [List.take_add_one,hx,Option.toList,List.findIdx?_append,List.length_take,Nat.min_eq_left (by omega)]
 cases (F.take i).findIdx? (λ x=>x.name==s) with
 |some j=>rfl
 |none =>
  by_cases c:x.name=s
  ·simp [List.findIdx?_cons,c]
  ·simp [List.findIdx?_cons,c]
theorem find_lt {F:List Spt} {s:List UInt8} {i:Nat} (h:findN F s=some i):i<F.length:=by
 unfold findN at h;obtain ⟨h,_⟩:=List.findIdx?_eq_some_iff_getElem.1 h;exact h
theorem find_mono {F:List Spt} {s:List UInt8} (i:Nat) (x:Spt) (hx:F[i]?=some x) (hs:x.name=s):(findN F s=some i ↔ findN (F.take i) s=none):=by
 have hi:=(List.getElem?_eq_some_iff.1 hx).1;have h1:F=F.take i++F.drop i:=(List.take_append_drop i F).symm
 have h2:F.drop i=x::F.drop (i+1):=by
  rw [List.drop_eq_getElem_cons hi]
  congr 1
  rw [List.getElem?_eq_getElem hi] at hx;injection hx
 have h3:findN F s=match findN (F.take i) s with|some j=>some j|none=>some i:=by
  conv=>lhs;rw [h1,h2]
  unfold findN;rw [List.findIdx?_append,List.findIdx?_cons,if_pos (by simp [hs]),List.length_take,Nat.min_eq_left (by omega)]
  cases (F.take i).findIdx? (λ x=>x.name==s) <;> simp
 rw [h3]
 cases hf:findN (F.take i) s with
 |some j =>
  have:=find_lt hf;rw [List.length_take] at this;simp;omega
 |none=>simp
theorem dbV_at (l:List (List UInt8)) (v:SyVar) (vs:List SyVar):dbV l (v::vs)=(if (!l.contains v.name)=true then [] else [(24,v.at_)])++dbV (l++[v.name]) vs:=by
 rw [dbV]
 cases l.contains v.name <;> rfl
def apP (F:List Spt) (a b:Int):Bool:=!(meetF F [a,b]==a) && !(meetF F [a,b]==b)&&decide (kindF F (meetF F [a,b])=2)
theorem meet_root {F:List Spt} (h:Fo F) {a b:Int} (ha:hasF F a=true) (hb:hasF F b=true):covF F (meetF F [a,b]) [a,b]=true/\∀m,covF F m [a,b]=true->m<=meetF F [a,b]:=by
 rcases h.meet [a,b] (by simp) with ⟨_,h1⟩|h1
 ·exfalso
  have h0:∀x,hasF F x=true->onW F x 0=true:=λ x hx=>by
   obtain ⟨k,s,rfl,hk,hs,_⟩:=hasF_of hx;unfold onW
   by_cases c:k=0
   ·rw [c];simp
   ·rw [Bool.or_eq_true];right
    obtain ⟨r,hr⟩:∃r,F[0]?=some r:=⟨_,List.getElem?_eq_getElem (by omega)⟩
    rw [show (0:Int)=((0:Nat):Int) from rfl,inW_nat hk hr];rw [Bool.and_eq_true,decide_eq_true_iff,decide_eq_true_iff];exact ⟨by omega,by rw [(h.root r hr).2];omega⟩
  have:=h1 0;obtain ⟨k,s,rfl,hk,_⟩:=hasF_of ha
  have h2:covF F 0 [((k:Nat):Int),b]=true:=covF_iff.2 ⟨λ n hn=>by
   rcases List.mem_cons.1 hn with rfl|hn
   ·exact h0 _ ha
   ·rw [List.mem_singleton.1 hn];exact h0 _ hb,by
    have:=hasF_nat (F:=F) (k:=0) (by omega)
    exact this⟩
  rw [this] at h2;cases h2
 ·exact h1
theorem meet_is {F:List Spt} (h:Fo F) {a b:Int} (ha:hasF F a=true) (hb:hasF F b=true):(meetF F [a,b]=a ↔ onW F b a=true)/\(meetF F [a,b]=b ↔ onW F a b=true)/\hasF F (meetF F [a,b])=true:=by
 obtain ⟨h1,h2⟩:=meet_root h ha hb;obtain ⟨h3,h4⟩:=covF_iff.1 h1;have oa:=h3 a (by simp);have ob:=h3 b (by simp)
 have self:∀x:Int,onW F x x=true:=λ x=>by unfold onW;simp
 have up:∀x m:Int,onW F x m=true->x<=m->m=x:=λ x m ho hl=>by
  unfold onW at ho;rw [Bool.or_eq_true] at ho;rcases ho with ho|ho
  ·exact (of_decide_eq_true ho).symm
  ·obtain ⟨i,j,s,t,rfl,rfl,_,_,hlt,_⟩:=inW_iff.1 ho;omega
 refine ⟨⟨λ e=>by rw [e] at ob;exact ob,λ e=>?_⟩,⟨λ e=>by rw [e] at oa;exact oa,λ e=>?_⟩,h4⟩
 ·exact up a _ oa (h2 a (covF_iff.2 ⟨λ n hn=>by
   rcases List.mem_cons.1 hn with rfl|hn
   ·exact self _
   ·rw [List.mem_singleton.1 hn];exact e,ha⟩))
 ·exact up b _ ob (h2 b (covF_iff.2 ⟨λ n hn=>by
   rcases List.mem_cons.1 hn with rfl|hn
   ·exact e
   ·rw [List.mem_singleton.1 hn];exact self _,hb⟩))
theorem apP_eq {F:List Spt} (h:Fo F) {a b:Int} (ha:hasF F a=true) (hb:hasF F b=true):apP F a b=apartF F a b:=by
 obtain ⟨h1,h2,_⟩:=meet_is h ha hb;unfold apP apartF
 have e1:(meetF F [a,b]==a)=onW F b a:=by
  cases c:onW F b a with
  |true=>exact beq_iff_eq.2 (h1.2 c)
  |false=>exact beq_eq_false_iff_ne.2 (λ e=>by rw [h1.1 e] at c;cases c)
 have e2:(meetF F [a,b]==b)=onW F a b:=by
  cases c:onW F a b with
  |true=>exact beq_iff_eq.2 (h2.2 c)
  |false=>exact beq_eq_false_iff_ne.2 (λ e=>by rw [h2.1 e] at c;cases c)
 rw [e1,e2];unfold onW
 by_cases c:a=b
 ·subst c;simp
 ·rw [decide_eq_false c,decide_eq_false (λ e=>c e.symm)]
  cases inW F a b <;> cases inW F b a <;> rfl
def Kd (F:List Spt):Prop:=∀(i:Nat) (s:Spt),F[i]?=some s->s.kind=1∨s.kind=2∨s.kind=3∨s.kind=4
theorem isSt_not {k:Int} (h:k=1∨k=2∨k=3∨k=4):isHist k=!isSt k:=by
 rcases h with rfl|rfl|rfl|rfl <;> rfl
theorem kind_ok:∀{d:Nat} {x:GN},okN d x=true->x.kind=1∨x.kind=2∨x.kind=3∨x.kind=4
 |0,x,h=>by rw [okN] at h;cases h
 |d+1,.mk k nm ini dft en le mo ks p,h=>by
  rw [okN,Bool.and_eq_true] at h;obtain ⟨_,h⟩:=h;show k=1∨k=2∨k=3∨k=4
  split at h
  ·omega
  ·simp only [Bool.and_eq_true,decide_eq_true_eq] at h;omega
theorem pre_ok {d:Nat} {x:GN} (h:okN d x=true):∀y∈pre x,∃e,okN e y=true:=λ y hy=>by
 rcases ok_kinds d x h y hy with h|h
 ·exact ⟨d,h⟩
 ·exact h
theorem Kd.of {L:List GN} {F:List Spt} (h:FitL L F) (hk:∀y∈L,∃e,okN e y=true):Kd F:=λ i s hs=>by
 have hi:=(List.getElem?_eq_some_iff.1 hs).1;rw [h.len] at hi;obtain ⟨t,ht,h1,_⟩:=h.at_ (List.getElem?_eq_getElem hi);rw [hs] at ht;injection ht with ht;obtain ⟨e,he⟩:=hk _ (List.getElem_mem hi);rw [ht,h1];exact kind_ok he
def stI (F:List Spt) (s:List UInt8):Int:=match findN F s with|some i=>(match F[i]? with|some x=>if isSt x.kind=true then (i:Int) else -1|none=>-1)|none=>-1
def tgI (F:List Spt) (s:List UInt8):Int:=match findN F s with|some i=>if i=0 then -1 else (match F[i]? with|some x=>if isSt x.kind=true then (i:Int) else x.par|none=>-1)|none=>-1
theorem find_get {F:List Spt} {s:List UInt8} {i:Nat} (h:findN F s=some i):∃x,F[i]?=some x:=⟨_,List.getElem?_eq_getElem (find_lt h)⟩
theorem stI_is {F:List Spt} (hk:Kd F) (s:List UInt8):decide (0<=stI F s)=stF F s:=by
 unfold stI stF
 cases h:findN F s with
 |none=>rfl
 |some i =>
  obtain ⟨x,hx⟩:=find_get h;simp only [hx];rw [isSt_not (hk i x hx),Bool.not_not]
  cases isSt x.kind with
  |true=>simp
  |false=>rfl
theorem stI_df {F:List Spt} (hk:Kd F) {i:Nat} {x:Spt} (hx:F[i]?=some x) (s:List UInt8):dfF F i s=inW F (stI F s) x.par:=by
 have hn:∀b,inW F (-1) b=false:=λ b=>by
  unfold inW hasF;rfl
 unfold dfF stI stF
 cases h:findN F s with
 |none=>simp [hn]
 |some j =>
  obtain ⟨y,hy⟩:=find_get h;simp only [hx,hy];rw [isSt_not (hk j y hy),Bool.not_not]
  cases isSt y.kind with
  |true=>simp
  |false=>simp [hn]
theorem tgI_is {F:List Spt} (h:Fo F) (hk:Kd F) (s:List UInt8):(tgN F s=none/\tgI F s=-1)∨(tgN F s=some (tgI F s)/\hasF F (tgI F s)=true/\¬tgI F s<0):=by
 unfold tgN tgI
 cases hf:findN F s with
 |none=>exact .inl ⟨rfl,rfl⟩
 |some i =>
  cases i with
  |zero=>exact .inl ⟨rfl,by simp⟩
  |succ i =>
   obtain ⟨x,hx⟩:=find_get hf;have hl:=find_lt hf;right;simp only [hx];rw [if_neg (show ¬(i+1=0) from by omega),isSt_not (hk _ x hx)]
   cases isSt x.kind with
   |true =>
    simp only [Bool.not_true,Bool.false_eq_true,if_false,if_true];exact ⟨trivial,hasF_nat hl,by omega⟩
   |false =>
    simp only [Bool.not_false,if_true,Bool.false_eq_true,if_false];obtain ⟨p,t,hp,hlt,_⟩:=h.par (i+1) x (by omega) hx;rw [hp];exact ⟨trivial,hasF_nat (by omega),by omega⟩
theorem tgs_no {F:List Spt} {at_:List Int} {s:List UInt8} {l:List (List UInt8)} (h:tgN F s=none):tgsN F at_ (s::l)=false:=by rw [tgsN,h]
theorem tgs_some {F:List Spt} {at_:List Int} {s:List UInt8} {l:List (List UInt8)} {n:Int} (h:tgN F s=some n):tgsN F at_ (s::l)=(at_.all (λ m=>apartF F n m)&&tgsN F (at_++[n]) l):=by rw [tgsN,h]
theorem all_apP {F:List Spt} (h:Fo F) {n:Int} (hn:hasF F n=true):∀at_:List Int,(∀m∈at_,hasF F m=true)->at_.all (λ m=>apartF F n m)=at_.all (λ m=>apP F n m)
 |[],_=>rfl
 |m::l,hm=>by rw [List.all_cons,List.all_cons,all_apP h hn l (λ x hx=>hm x (List.mem_cons_of_mem _ hx)),apP_eq h hn (hm m (List.mem_cons_self ..))]
def rgK:List GN->Nat
 |[]=>0
 |x::l=>(if isSt x.kind=true then 1 else 0)+rgK l
theorem rgK_len:∀l:List GN,rgK l<=l.length
 |[]=>n_ _
 |x::l=>by
  have:=rgK_len l;rw [rgK,List.length_cons]
  split <;> omega
theorem rgK_st:∀(l:List GN),(∀x∈l,∃e,okN e x=true)->rgK l=stK l
 |[],_=>rfl
 |x::l,h=>by
  obtain ⟨e,he⟩:=h x (List.mem_cons_self ..);rw [rgK,stK,rgK_st l (λ y hy=>h y (List.mem_cons_of_mem _ hy)),isSt_not (kind_ok he)]
  cases isSt x.kind <;> rfl
def inL:GN->List (Int×Int)
 |.mk k _ ini _ _ _ _ ks p=>if (decide (k=1)&&decide (0<rgK ks))=true then (if (ks.any λ x=>x.nm==ini)=true then [] else [(25,p)])
  else (if ini.isEmpty=true then [] else [(25,p)])++(if (!decide (k=2) || decide (1<rgK ks))=true then [] else [(25,p)])
def hiL (F:List Spt) (par:Int):GN->List (Int×Int)
 |.mk k _ _ dft _ _ _ ks p=>if isSt k=false then (if inW F (stI F dft) par=true then [] else [(26,p)])
  else if (decide (k=1)&&decide (rgK ks=0))=true then (if ks.isEmpty=true then [] else [(26,p)]) else []
theorem own_eq {F:List Spt} (hk:Kd F) {i:Nat} {x:Spt} (hx:F[i]?=some x):∀{d:Nat} {y:GN},okN d y=true->∀f,adv (adv f (inL y)) (hiL F x.par y)=adv f (ownFt F i y)
 |0,y,h=>by rw [okN] at h;cases h
 |d+1,.mk k nm ini dft en le mo ks p,h=>by
  intro f;have hkd:=kind_ok h;rw [okN,Bool.and_eq_true] at h;obtain ⟨_,h⟩:=h;rw [ownFt,stI_df hk hx];dsimp only [inL,hiL];have hkd':k=1∨k=2∨k=3∨k=4:=hkd
  have e0:∀q:Bool,adv f ((if q=true then [] else [((25:Int),p)])++[])=adv f (if q=true then [] else [(25,p)]):=λ q=>by rw [List.append_nil]
  rcases hkd' with rfl|rfl|hh
  ·rw [if_neg (by decide)] at h;simp only [Bool.and_eq_true] at h;have hr:rgK ks=stK ks:=rgK_st ks (λ z hz=>⟨d,okNs_iff.1 h.2 z hz⟩);rw [hr]
   by_cases c:0<stK ks
   ·cases hany:(ks.any λ x=>x.nm==ini) with
    |true=>simp [c,isSt,isHist,adv_nil,show stK ks≠0 from by omega]
    |false=>simp [c,isSt,isHist,adv_nil,show stK ks≠0 from by omega]
   ·have c0:stK ks=0:=by omega
    cases ini with
    |nil=>cases ks <;> simp [c0,isSt,isHist,adv_nil]
    |cons a l =>
     have:adv (adv f [(25,p)]) (if ks.isEmpty=true then [] else [(26,p)])=adv f [(25,p)]:=by
      rw [<-adv_app f _ (λ x hx=>by rw [List.mem_singleton.1 hx];simp)];unfold adv;rfl
     simpa [c0,isSt,isHist,adv_nil] using this
  ·rw [if_neg (by decide)] at h;simp only [Bool.and_eq_true] at h;have hr:rgK ks=stK ks:=rgK_st ks (λ z hz=>⟨d,okNs_iff.1 h.2 z hz⟩);rw [hr]
   by_cases c:1<stK ks
   ·cases ini with
    |nil=>simp [c,isSt,isHist,adv_nil,show ¬stK ks<2 from by omega]
    |cons a l=>simp [c,isSt,isHist,adv_nil]
   ·cases ini with
    |nil=>simp [c,isSt,isHist,adv_nil,show stK ks<2 from by omega]
    |cons a l =>
     have:adv f [((25:Int),p),(25,p)]=adv f [(25,p)]:=by unfold adv;rfl
     simpa [c,isSt,isHist,adv_nil] using this
  ·rw [if_pos hh] at h;simp only [Bool.and_eq_true,List.isEmpty_iff] at h;obtain ⟨⟨⟨⟨⟨_,rfl⟩,_⟩,_⟩,_⟩,rfl⟩:=h
   rcases hh with rfl|rfl <;> cases hq:inW F (stI F dft) x.par <;> simp [isSt,isHist,adv_nil,rgK,hq]
end Go.Proofs.YtocecpghoncmgaaGreatDoor
namespace Go.Proofs.YtocecpghoncmgaaGreatDoor
open Go.RowKit Go.Maps
theorem kLaw:Keyed Tryz.prog 9:=string_keyed Tryz.underlying9
theorem kZero (w:World):(zeroValue 3).run Tryz.prog w=.ok (.int .i64 0) w:=by kernel_rfl
def IdxAt (w:World) (b n:Nat) (f:List UInt8->Option Nat):Prop:=∃D:DataW Unit,w.ownsMap Tryz.prog 9 (plainElem Tryz.prog 3) b n D/\IsMap D/\∀s,Maps.has D (.string s)=(f s).isSome/\∀i,f s=some i->D.atKey (.string s) (.lit (.int .i64 0))=.lit (.int .i64 (i:Int))
theorem IdxAt.lt {w:World} {b n:Nat} {f:List UInt8->Option Nat} (h:IdxAt w b n f):b<w.heap.size:=by
 obtain ⟨D,h,_⟩:=h;exact World.ownsMap.lt h
theorem IdxAt.same {w w':World} {b n:Nat} {f:List UInt8->Option Nat} (h:IdxAt w b n f) (hs:w'.heap[b]?=w.heap[b]?):IdxAt w' b n f:=by
 obtain ⟨D,⟨es,clock,h1,h2⟩,h3⟩:=h;exact ⟨D,⟨es,clock,hs.trans h1,h2⟩,h3⟩
theorem IdxAt.new (w:World):IdxAt (w.alloc (.map #[] 0)) w.heap.size 0 (λ _=>none):=⟨.map [],World.ownsMap_made w _ _ _,⟨[],rfl⟩,λ s=>⟨rfl,λ i h=>by cases h⟩⟩
theorem IdxAt.put {w:World} {b n:Nat} {f:List UInt8->Option Nat} {D:DataW Unit} {t:List UInt8} {i:Nat} (h:w.ownsMap Tryz.prog 9 (plainElem Tryz.prog 3) b n (D.put (.string t) (.lit (.int .i64 (i:Int))))) (hD:IsMap D)
  (hf:∀s,Maps.has D (.string s)=(f s).isSome/\∀i,f s=some i->D.atKey (.string s) (.lit (.int .i64 0))=.lit (.int .i64 (i:Int))):IdxAt w b n (λ s=>if s=t then some i else f s):=by
 have hk:WideAt.IsKeyLit (.string t):=by simp [WideAt.IsKeyLit]
 refine ⟨_,h,hD.put _ _,λ s=>?_⟩
 by_cases c:s=t
 ·subst c;simp only [if_true];refine ⟨has_put_same hD hk _,λ j hj=>?_⟩;injection hj with hj;rw [<-hj];exact atKey_put_same hD hk _ _
 ·have hne:(Lit.string s)≠.string t:=λ e=>c (by injection e);simp only [if_neg c];rw [has_put_other hne];refine ⟨(hf s).1,λ j hj=>?_⟩;rw [atKey_put_other hne];exact (hf s).2 j hj
theorem ihas_any (w:World) (b n:Nat) (f:List UInt8->Option Nat) (s:ByteArray) (hM:IdxAt w b n f) (hs:s.size<=maxLen) :
  Calls Tryz.prog 88 #[.map (some b),.string s] w λ e w'=>e=.returned (.bool (f s.data.toList).isSome)/\w'=w:=by
 obtain ⟨D,hM,_,hf⟩:=hM;have HM:=h_ hM;have HF:=h_ (hf s.data.toList).1;have HK:=h_ (Go.WideMaps.keyOf_string_mk (P:=Tryz.prog) Tryz.underlying9 hs);clear hM hf hs;go_enter Tryz.func88,Tryz.ntmps88;go_wp2_with (first|(at_lookup;refine wpList_lookup_own_ok_int _ rfl _ _ 63 rfl 9 3 .i64 kLaw Tryz.underlying63 Tryz.underlying3 (kZero _) b n _ rfl HM.out _ _ rfl HK.out ?_;intro c hat hwc;rw [HF.out])|go_in);go_ret;exact ⟨rfl,rfl⟩
theorem iadd_any (w:World) (b n:Nat) (f:List UInt8->Option Nat) (s:ByteArray) (i:Nat) (hM:IdxAt w b n f) (hs:s.size<=maxLen) (hn:n<maxLen) (hi:i<=1000000) :
  Calls Tryz.prog 49 #[.map (some b),.string s,.int .i64 (i:Int)] w λ e w'=>e=.returned (.bool (f s.data.toList).isNone)/\IdxAt w' b (n+1) (λ t=>match f t with|some j=>some j|none=>if t=s.data.toList then some i else none)/\Mv b w w':=by
 have HH:=h_ (ihas_any w b n f s hM hs);have HK:=h_ (Go.WideMaps.keyOf_string_mk (P:=Tryz.prog) Tryz.underlying9 hs);have HN:=h_ hn;have HMB:=h_ (λ (W:World) (hb:Below w.heap.size w W)=>hM.same (hb.block b hM.lt));have HWF:Hid ((Lit.int .i64 (i:Int)).wf=true):=WalkArith.wf_i64 (by omega)
 obtain ⟨q,hq⟩:∃q,f s.data.toList=q:=⟨_,rfl⟩
 have HQ:=h_ hq;rw [hq] at HH ⊢;clear hM hs hn hi hq
 cases q with
 |some j =>
  simp only [Option.isSome_some] at HH;go_enter Tryz.func49,Tryz.ntmps49;go_wp2_with fail;refine HH.out.mono ?_;rintro e w2 ⟨rfl,rfl⟩;clear HH;go_wp2_with fail;go_ret;refine ⟨rfl,?_,Mv.refl b w2⟩;obtain ⟨D,h1,h2,h3⟩:=HMB.out w2 (b_ _ w2);refine ⟨D,World.ownsMap.mono h1 (Nat.le_succ _),h2,λ t=>?_⟩
  have e:(match f t with|some j=>some j|none=>if t=s.data.toList then some i else none)=f t:=by
   cases hft:f t with
   |some k=>rfl
   |none =>
    rw [if_neg (λ e=>by rw [e,HQ.out] at hft;cases hft)]
  simp only [e];exact h3 t
 |none =>
  simp only [Option.isSome_none] at HH;go_enter Tryz.func49,Tryz.ntmps49;go_wp2_with fail;refine HH.out.mono ?_;rintro e w2 ⟨rfl,rfl⟩;obtain ⟨D,h1,h2,h3⟩:=HMB.out w2 (b_ _ w2);have HM:=h_ h1;have HD:=h_ (And.intro h2 h3);clear HH h1 h2 h3 HMB;go_wp2_with (first|(at_mapUpdate;refine wpList_mapUpdate_own _ rfl _ _ _ 63 rfl 9 3 kLaw Tryz.underlying63 (plainElem Tryz.prog 3) b n _ rfl HM.out HN.out _ _ _ rfl rfl HK.out _ [] (plainElem_int Tryz.underlying3 HWF.out) ?_;intro w1 hown hgrow;have H1:=h_ (And.intro hown hgrow);clear hown hgrow)|go_in);go_ret;refine ⟨rfl,?_,H1.out.2⟩;obtain ⟨D',h1,h2,h3⟩:=IdxAt.put H1.out.1 HD.out.1 HD.out.2;refine ⟨D',h1,h2,λ t=>?_⟩
  have e:(match f t with|some j=>some j|none=>if t=s.data.toList then some i else none)=if t=s.data.toList then some i else f t:=by
   by_cases c:t=s.data.toList
   ·rw [if_pos c,c,HQ.out];simp
   ·rw [if_neg c]
    cases f t <;> simp [c]
  simp only [e];exact h3 t
end Go.Proofs.YtocecpghoncmgaaGreatDoor
namespace Go.Proofs.YtocecpghoncmgaaGreatDoor
open Go.RowKit
structure SpR (w:World) (g:Nat) (F:List Spt):Prop where
 lt:g<w.heap.size
 len:F.length<=9223372036854775807
 k:∀(i:Nat) (s:Spt),F[i]?=some s->w.cell? ⟨g,i*5,none⟩=some (.int .i64 s.kind)
 n:∀(i:Nat) (s:Spt),F[i]?=some s->w.cell? ⟨g,i*5+1,none⟩=some (txV s.name)
 p:∀(i:Nat) (s:Spt),F[i]?=some s->w.cell? ⟨g,i*5+2,none⟩=some (.int .i64 s.par)
 d:∀(i:Nat) (s:Spt),F[i]?=some s->w.cell? ⟨g,i*5+3,none⟩=some (.int .i64 s.dep)
 f:∀(i:Nat) (s:Spt),F[i]?=some s->w.cell? ⟨g,i*5+4,none⟩=some (.int .i64 s.fin)
theorem SpR.same {w w':World} {g:Nat} {F:List Spt} (h:SpR w g F) (hz:w.heap.size<=w'.heap.size) (hs:w'.heap[g]?=w.heap[g]?):SpR w' g F:=by
 have e:∀i,w'.cell? ⟨g,i,none⟩=w.cell? ⟨g,i,none⟩:=λ i=>World.cell?_of_block hs;exact ⟨by have:=h.lt;omega,h.len,λ i s hi=>by rw [e];exact h.k i s hi,λ i s hi=>by rw [e];exact h.n i s hi,λ i s hi=>by rw [e];exact h.p i s hi,λ i s hi=>by rw [e];exact h.d i s hi,λ i s hi=>by rw [e];exact h.f i s hi⟩
theorem SpR.below {w w':World} {g:Nat} {F:List Spt} (h:SpR w g F) (hb:Below w.heap.size w w'):SpR w' g F:=h.same hb.size (hb.block g h.lt)
theorem fhas_any (w:World) (A:Option Addr) (n c:Nat) (k:Int) :
  Calls Tryz.prog 203 #[.slice A n c,.int .i64 k] w λ e w'=>e=.returned (.bool (decide (0<=k)&&decide (k<(n:Int))))/\w'=w:=by
 obtain ⟨q1,hq1⟩:∃q,decide (0<=k)=q:=⟨_,rfl⟩
 obtain ⟨N,hN⟩:∃N:Int,(n:Int)=N:=⟨_,rfl⟩
 obtain ⟨q2,hq2⟩:∃q,decide (k<N)=q:=⟨_,rfl⟩
 rw [hq1,hN,hq2]
 cases q1 with
 |false =>
  have h0:decide (0<=k)=false:=hq1;go_enter Tryz.func203,Tryz.ntmps203;go_wp2_with fail;go_ret;exact ⟨rfl,rfl⟩
 |true =>
  have h0:decide (0<=k)=true:=hq1;go_enter Tryz.func203,Tryz.ntmps203;go_wp2_with fail;go_ret;exact ⟨rfl,rfl⟩
theorem flwithin_any (w:World) (g c:Nat) (F:List Spt) (a b:Int) (h:SpR w g F) :
  Calls Tryz.prog 149 #[.slice (some ⟨g,0,none⟩) F.length c,.int .i64 a,.int .i64 b] w λ e w'=>e=.returned (.bool (inW F a b))/\w'=w:=by
 have HA:=h_ (fhas_any w (some ⟨g,0,none⟩) F.length c a);have HB:=h_ (fhas_any w (some ⟨g,0,none⟩) F.length c b)
 have HC:Hid (hasF F b=true->∃(k:Nat) (s:Spt),b=(k:Int)/\k<F.length/\F.length<=9223372036854775807/\w.cell? ⟨g,k*5+4,none⟩=some (.int .i64 s.fin)/\finF F b=s.fin):=λ hb=>by
  obtain ⟨k,s,rfl,h1,h2,h3⟩:=hasF_of hb;exact ⟨k,s,rfl,h1,h.len,h.f k s h2,by unfold finF;rw [h3]⟩
 clear h;have HX:Hid (inW F a b=(hasF F a&&hasF F b&&decide (b<a)&&decide (a<finF F b))):=rfl
 obtain ⟨q1,hq1⟩:∃q,hasF F a=q:=⟨_,rfl⟩
 obtain ⟨q2,hq2⟩:∃q,hasF F b=q:=⟨_,rfl⟩
 obtain ⟨X,hX⟩:∃X,inW F a b=X:=⟨_,rfl⟩
 have e1:(decide (0<=a)&&decide (a<(F.length:Int)))=q1:=hq1;have e2:(decide (0<=b)&&decide (b<(F.length:Int)))=q2:=hq2;rw [e1] at HA;rw [e2] at HB;rw [hq1,hq2,hX] at HX;rw [hq2] at HC;rw [hX];clear hX hq1 hq2 e1 e2
 cases q1 with
 |false =>
  have HX':Hid (X=false):=HX.out;clear HX HC;go_enter Tryz.func149,Tryz.ntmps149;go_wp2_with (refine HA.out.mono ?_);rintro e w1 ⟨rfl,rfl⟩;go_wp2_with fail;go_ret;exact ⟨by obtain rfl:=HX'.out;rfl,rfl⟩
 |true =>
  cases q2 with
  |false =>
   have HX':Hid (X=false):=HX.out;clear HX HC;go_enter Tryz.func149,Tryz.ntmps149;go_wp2_with fail;refine HA.out.mono ?_;rintro e w1 ⟨rfl,rfl⟩;go_wp2_with fail;refine HB.out.mono ?_;rintro e w2 ⟨rfl,rfl⟩;go_wp2_with fail;go_ret;exact ⟨by obtain rfl:=HX'.out;rfl,rfl⟩
  |true =>
   obtain ⟨k,s,rfl,hk,hm,hf,hfin⟩:=HC.out rfl;rw [hfin] at HX
   obtain ⟨n,hn⟩:∃n,F.length=n:=⟨_,rfl⟩
   rw [hn] at hk hm HA HB ⊢
   obtain ⟨q3,hq3⟩:∃q,decide ((k:Int)<a)=q:=⟨_,rfl⟩
   rw [hq3] at HX
   have hb1:(0:Int)<=(k:Int):=by omega
   have hb2:(k:Int)<(n:Int):=by omega
   clear HC hn hfin
   cases q3 with
   |false =>
    have HX':Hid (X=false):=HX.out;clear HX;go_enter Tryz.func149,Tryz.ntmps149;go_wp2_with fail;refine HA.out.mono ?_;rintro e w1 ⟨rfl,rfl⟩;go_wp2_with fail;refine HB.out.mono ?_;rintro e w2 ⟨rfl,rfl⟩;go_wp2_with fail;go_ret;exact ⟨by obtain rfl:=HX'.out;rfl,rfl⟩
   |true =>
    have HX':Hid (X=decide (a<s.fin)):=HX.out;clear HX;go_enter Tryz.func149,Tryz.ntmps149;go_wp2_with fail;refine HA.out.mono ?_;rintro e w1 ⟨rfl,rfl⟩;go_wp2_with fail;refine HB.out.mono ?_;rintro e w2 ⟨rfl,rfl⟩;go_wp2_with fail;go_ret;exact ⟨by obtain rfl:=HX'.out;rfl,rfl⟩
theorem fwithin_any (w:World) (g c:Nat) (F:List Spt) (a b:Int) (h:SpR w g F) :
  Calls Tryz.prog 92 #[.slice (some ⟨g,0,none⟩) F.length c,.int .i64 a,.int .i64 b] w λ e w'=>e=.returned (.bool (inW F a b))/\w'=w:=by
 have HA:=h_ (flwithin_any w g c F a b h);clear h
 obtain ⟨X,hX⟩:∃X,inW F a b=X:=⟨_,rfl⟩
 rw [hX] at HA ⊢;clear hX;go_enter Tryz.func92,Tryz.ntmps92;go_wp2_with fail;refine HA.out.mono ?_;rintro e w1 ⟨rfl,rfl⟩;go_wp2_with fail;go_ret;exact ⟨rfl,rfl⟩
theorem fparent_any (w:World) (g c:Nat) (F:List Spt) (a:Int) (h:SpR w g F) :
  Calls Tryz.prog 255 #[.slice (some ⟨g,0,none⟩) F.length c,.int .i64 a] w λ e w'=>e=.returned (.int .i64 (parF F a))/\w'=w:=by
 have HA:=h_ (fhas_any w (some ⟨g,0,none⟩) F.length c a)
 have HC:Hid (hasF F a=true->∃(k:Nat) (s:Spt),a=(k:Int)/\k<F.length/\F.length<=9223372036854775807/\w.cell? ⟨g,k*5+2,none⟩=some (.int .i64 s.par)/\parF F a=if s.par<a then s.par else -1):=λ hb=>by
  obtain ⟨k,s,rfl,h1,h2,h3⟩:=hasF_of hb;exact ⟨k,s,rfl,h1,h.len,h.p k s h2,by unfold parF;rw [h3]⟩
 have HN:Hid (hasF F a=false->parF F a=-1):=λ hb=>by unfold parF;rw [spA_none hb]
 clear h
 obtain ⟨q1,hq1⟩:∃q,hasF F a=q:=⟨_,rfl⟩
 obtain ⟨X,hX⟩:∃X,parF F a=X:=⟨_,rfl⟩
 have e1:(decide (0<=a)&&decide (a<(F.length:Int)))=q1:=hq1;rw [e1] at HA;rw [hq1,hX] at HC HN;rw [hX];clear hX hq1 e1
 cases q1 with
 |false =>
  have HX':Hid (X=-1):=HN.out rfl;clear HN HC;go_enter Tryz.func255,Tryz.ntmps255;go_wp2_with fail;refine HA.out.mono ?_;rintro e w1 ⟨rfl,rfl⟩;go_wp2_with fail;go_ret;exact ⟨by obtain rfl:=HX'.out;rfl,rfl⟩
 |true =>
  obtain ⟨k,s,rfl,hk,hm,hf,hpar⟩:=HC.out rfl
  obtain ⟨n,hn⟩:∃n,F.length=n:=⟨_,rfl⟩
  rw [hn] at hk hm HA ⊢
  obtain ⟨q3,hq3⟩:∃q,decide (s.par<(k:Int))=q:=⟨_,rfl⟩
  have hb1:(0:Int)<=(k:Int):=by omega
  have hb2:(k:Int)<(n:Int):=by omega
  clear HC hn HN
  obtain ⟨P,hP⟩:∃P,s.par=P:=⟨_,rfl⟩
  rw [hP] at hpar hq3 hf;clear hP
  cases q3 with
  |false =>
   have HX':Hid (X=-1):=by
    show _=_;rw [hpar,if_neg (by simpa using hq3)]
   clear hpar;go_enter Tryz.func255,Tryz.ntmps255;go_wp2_with fail;refine HA.out.mono ?_;rintro e w1 ⟨rfl,rfl⟩;go_wp2_with fail;go_ret;exact ⟨by obtain rfl:=HX'.out;rfl,rfl⟩
  |true =>
   have HX':Hid (X=P):=by
    show _=_;rw [hpar,if_pos (by simpa using hq3)]
   clear hpar;go_enter Tryz.func255,Tryz.ntmps255;go_wp2_with fail;refine HA.out.mono ?_;rintro e w1 ⟨rfl,rfl⟩;go_wp2_with fail;go_ret;exact ⟨by obtain rfl:=HX'.out;rfl,rfl⟩
end Go.Proofs.YtocecpghoncmgaaGreatDoor
namespace Go.Proofs.YtocecpghoncmgaaGreatDoor
open Go.RowKit
theorem notS_any (w:World) (S:ByteArray) (h:Nat) (r:Bool) (hc:w.cell? ⟨h,0,none⟩=some (.func (.func 137) #[] #[])) (_hh:h<w.heap.size)
  (HF:Hid (∀W,Below w.heap.size w W->Calls Tryz.prog 137 #[.string S] W λ e w'=>e=.returned (.bool r)/\Below W.heap.size W w')) :
  Calls Tryz.prog 282 #[.string S,.pointer (some ⟨h,0,none⟩)] w λ e w'=>e=.returned (.bool (!r))/\Below w.heap.size w w':=by
 have HC:=h_ (HF.out w (b_ _ w));clear _hh HF;go_enter Tryz.func282,Tryz.ntmps282;go_wp2_with fail;refine HC.out.mono ?_;rintro e w2 ⟨rfl,hb⟩;have HB2:=h_ hb;clear hb HC hc;go_wp2_with fail;go_ret;exact ⟨rfl,HB2.out⟩
def allWS (w:World) (l:List (List UInt8)) (v:Value):Prop:=∀(i:Nat) (a:(List UInt8)),l[i]?=some a->∃(g og c:Nat) (_:Unit),v=.slice (some ⟨g,og,none⟩) l.length c/\g<w.heap.size/\w.cell? ⟨g,og+i,none⟩=some (txV a) /\
 ∀W,Below w.heap.size w W->Calls Tryz.prog 137 #[txV a] W λ e w'=>e=.returned (.bool (isNm a))/\Below W.heap.size W w'
theorem firstS_any (w0 w:World) (l:List (List UInt8)) (A:Option Addr) (c h n:Nat) (hn:l.length=n) (hm:n<=9223372036854775807) (H0:Hid (allWS w0 l (.slice A n c))) (hb0:Below w0.heap.size w0 w) (hc:w.cell? ⟨h,0,none⟩=some (.func (.func 137) #[] #[])) (hh:h<w.heap.size) :
  Calls Tryz.prog 312 #[.slice A n c,.func (.func 282) #[] #[.pointer (some ⟨h,0,none⟩)]] w λ e w'=>∃r:Int,e=.returned (.int .i64 r)/\decide (0<=r)=!(l.all isNm)/\Below w.heap.size w w':=by
 have HN:=h_ hn;have HM:=h_ hm;have HB0:=h_ hb0;have HC0:=h_ (And.intro hc hh);clear hn hm hb0 hc hh;go_enter Tryz.func312,Tryz.ntmps312;go_wp2_with fail
 go_loopw [8] (λ iv wr=>∃i:Nat,i<=n/\iv=.int .i64 (i:Int)/\Hid ((l.take i).all isNm=true)/\Hid (Below w.heap.size w wr)) (λ iv _=>n-(intOf iv).toNat)
 case atStart=>exact ⟨0,Nat.zero_le _,rfl,rfl,b_ _ w⟩
 case round =>
  obtain ⟨i,hi,rfl,HT,HBW⟩:=hrel
  by_cases him:i<n
  ·have him':(i:Int)<n:=by omega
   have HIM:=h_ him
   obtain ⟨a,ha⟩:∃a,l[i]?=some a:=⟨_,List.getElem?_eq_getElem (by rw [HN.out];exact him)⟩
   have hyc:=H0.out i a ha;rw [HN.out] at hyc;obtain ⟨g,og,c',_,hv,hg,y0,hcall⟩:=hyc
   obtain rfl:A=some ⟨g,og,none⟩:=by injection hv
   have hbw:Below w0.heap.size w0 wr:=HB0.out.trans (HBW.out.mono HB0.out.size)
   have kb:∀{p:Addr} {u:Value},w0.cell? p=some u->wr.cell? p=some u:=λ hc=>by rw [World.cell?_of_block (hbw.block _ (World.block_lt_of_cell? w0 _ hc))];exact hc
   have u0:=kb y0;have HCL:=h_ (notS_any wr ⟨a.toArray⟩ h (isNm a) (by rw [World.cell?_of_block (HBW.out.block h HC0.out.2)];exact HC0.out.1) (Nat.lt_of_lt_of_le HC0.out.2 HBW.out.size) (λ W hb=>hcall W (hbw.trans (hb.mono hbw.size))))
   obtain ⟨r,hr⟩:∃r,isNm a=r:=⟨_,rfl⟩
   rw [hr] at HCL;have HAR:=h_ (And.intro ha hr);clear ha hr hv hg hcall hbw kb y0;cases r
   ·go_wp2_with fail;refine HCL.out.mono ?_;rintro e w2 ⟨rfl,hb⟩;have HB2:=h_ (HBW.out.trans (hb.mono HBW.out.size));clear hb HCL u0 HBW;go_wp2_with fail;go_ret;refine ⟨_,rfl,?_,HB2.out⟩
    have hf:l.all isNm=false:=by
     rw [List.all_eq_false];exact ⟨a,List.mem_of_getElem? HAR.out.1,by rw [HAR.out.2];decide⟩
    rw [hf];simp
   ·go_wp2_with fail;refine HCL.out.mono ?_;rintro e w2 ⟨rfl,hb⟩;have HB2:=h_ (HBW.out.trans (hb.mono HBW.out.size));clear hb HCL u0 HBW;go_wp2_with fail
    go_roundw
    case rel =>
     refine ⟨i+1,by have:=HIM.out;omega,by have h1:=HIM.out;have h2:=HM.out;rw [Go.IntWalk.wrap64_in _ ⟨by omega,by omega⟩];rfl,?_,HB2⟩;show (l.take (i+1)).all isNm=true;rw [List.take_add_one,HAR.out.1,List.all_append,HT.out];simp [HAR.out.2]
    case measure=>have h1:=HIM.out;have h2:=HM.out;rw [Go.IntWalk.wrap64_in _ ⟨by omega,by omega⟩];simp [intOf];omega
  ·have him':¬(i:Int)<n:=by omega
   have HALL:Hid (l.all isNm=true):=by
    have:=HT.out;rw [List.take_of_length_le (by rw [HN.out];omega)] at this;exact this
   clear hi;go_wp2_with fail;go_ret;exact ⟨_,rfl,by rw [HALL.out];rfl,HBW.out⟩
theorem contS_any (w0 w:World) (l:List (List UInt8)) (A:Option Addr) (c h n:Nat) (R:Bool) (hR:l.all isNm=R) (hn:l.length=n) (hm:n<=9223372036854775807) (H0:Hid (allWS w0 l (.slice A n c))) (hb0:Below w0.heap.size w0 w) (hc:w.cell? ⟨h,0,none⟩=some (.func (.func 137) #[] #[])) (hh:h<w.heap.size) :
  Calls Tryz.prog 281 #[.slice A n c,.func (.func 282) #[] #[.pointer (some ⟨h,0,none⟩)]] w λ e w'=>e=.returned (.bool (!R))/\Below w.heap.size w w':=by
 have HC:=h_ (firstS_any w0 w l A c h n hn hm H0 hb0 hc hh);rw [hR] at HC;clear hn hm H0 hb0 hc hh hR;go_enter Tryz.func281,Tryz.ntmps281;go_wp2_with fail;refine HC.out.mono ?_;rintro e w2 ⟨r,rfl,hr,hb⟩;have HB2:=h_ hb;have HR2:=h_ hr;clear hb hr HC;go_wp2_with fail;go_ret;refine ⟨?_,HB2.out⟩;rw [<-HR2.out];rfl
theorem everyS_any (w:World) (l:List (List UInt8)) (A:Option Addr) (c n:Nat) (hn:l.length=n) (hm:n<=9223372036854775807) (H0:Hid (allWS w l (.slice A n c))) :
  Calls Tryz.prog 245 #[.slice A n c,.func (.func 137) #[] #[]] w λ e w'=>e=.returned (.bool (l.all isNm))/\Below w.heap.size w w':=by
 obtain ⟨W0,hW0⟩:∃W,W=w.alloc (.cells #[.func (.func 137) #[] #[]] 44):=⟨_,rfl⟩
 obtain ⟨g0,hg0⟩:∃g,g=w.heap.size:=⟨_,rfl⟩
 have HB:Hid (Below w.heap.size w W0):=by rw [hW0];exact (b_ _ w).alloc (n_ _) _
 have HX:Hid (CB W0 g0 44 [.func (.func 137) #[] #[]]):=by rw [hW0,hg0];exact CB.new w _ [.func (.func 137) #[] #[]]
 obtain ⟨R,hR⟩:∃R,l.all isNm=R:=⟨_,rfl⟩
 have HC:=h_ (contS_any w W0 l A c g0 n R hR hn hm H0 HB.out (HX.out.c 0 rfl) HX.out.lt);rw [hR];clear hn hm H0 hR HX;go_enter Tryz.func245,Tryz.ntmps245;go_upto_region 1 with fail;rw [<-hW0,<-hg0];clear hW0 hg0;go_wp2_with fail;refine HC.out.mono ?_;rintro e w2 ⟨rfl,hb⟩;have HB2:=h_ (HB.out.trans (hb.mono HB.out.size));clear hb HC;go_wp2_with fail;go_ret;exact ⟨by cases R <;> rfl,HB2.out⟩
end Go.Proofs.YtocecpghoncmgaaGreatDoor
namespace Go.Proofs.YtocecpghoncmgaaGreatDoor
open Go.RowKit
theorem Mv.of_below {w w':World} (b:Nat) (h:Below w.heap.size w w'):Mv b w w':=⟨h.os,h.tape,h.output,h.size,λ _ hk _=>h.block _ hk⟩
def KS (w0 w:World) (b lvl:Nat) (s:Nat×Nat×Nat):Prop:=Below w0.heap.size w0 w/\CB w b 150 [.int .i64 (s.1:Int),.int .i64 (s.2.1:Int),.int .i64 (s.2.2:Int),.int .i64 (lvl:Int)]
theorem KS.below {w0 w w':World} {b lvl:Nat} {s:Nat×Nat×Nat} (h:KS w0 w b lvl s) (hb:Below w.heap.size w w'):KS w0 w' b lvl s:=⟨h.1.trans (hb.mono h.1.size),h.2.below hb⟩
def foldS {σ α:Type} (step:σ->α->Bool×σ):σ->List α->Bool×σ
 |s,[]=>(true,s)
 |s,a::l=>if (step s a).1=true then foldS step (step s a).2 l else (false,(step s a).2)
def blkC (s:Nat×Nat×Nat) (l:List GA):Bool×(Nat×Nat×Nat):=(decide (s.2.2+l.length<=400)&&l.all okA,(s.1,s.2.1,s.2.2+l.length))
def mvS (s:Nat×Nat×Nat) (m:GM):Bool×(Nat×Nat×Nat):=if (trig m&&grd m)=true then ((blkC s m.acts).1&&m.targets.all isNm,(blkC s m.acts).2) else (false,s)
def bodiless (x:GN):Bool:=match x with
 |.mk _ _ ini _ en le mo ks _=>ini.isEmpty&&en.isEmpty&&le.isEmpty&&mo.isEmpty&&ks.isEmpty
def hdS (s:Nat×Nat×Nat) (ini:List UInt8) (en le:List GA) (mo:List GM):Bool×(Nat×Nat×Nat) :=
 if (ini.isEmpty || isNm ini)=true then
  if (blkC s en).1=true then
   if (blkC (blkC s en).2 le).1=true then
    if (blkC (blkC s en).2 le).2.2.1+mo.length<=200 then foldS mvS ((blkC (blkC s en).2 le).2.1,(blkC (blkC s en).2 le).2.2.1+mo.length,(blkC (blkC s en).2 le).2.2.2) mo
    else (false,((blkC (blkC s en).2 le).2.1,(blkC (blkC s en).2 le).2.2.1+mo.length,(blkC (blkC s en).2 le).2.2.2))
   else (false,(blkC (blkC s en).2 le).2)
  else (false,(blkC s en).2)
 else (false,s)
mutual
def ndS (lvl:Nat) (s:Nat×Nat×Nat):GN->Bool×(Nat×Nat×Nat)
 |.mk k nm ini dft en le mo ks _ =>
  if (decide (s.1+1<=64)&&decide (lvl<12)&&isNm nm)=true then
   if k=1∨k=2 then
    if dft.isEmpty=true then
     if (hdS (s.1+1,s.2) ini en le mo).1=true then ndsS (lvl+1) (hdS (s.1+1,s.2) ini en le mo).2 ks else (false,(hdS (s.1+1,s.2) ini en le mo).2)
    else (false,(s.1+1,s.2))
   else if k=3∨k=4 then (isNm dft&&(ini.isEmpty&&en.isEmpty&&le.isEmpty&&mo.isEmpty&&ks.isEmpty),(s.1+1,s.2))
   else (false,(s.1+1,s.2))
  else (false,(s.1+1,s.2))
def ndsS (lvl:Nat) (s:Nat×Nat×Nat):List GN->Bool×(Nat×Nat×Nat)
 |[]=>(true,s)
 |x::l=>if (ndS lvl s x).1=true then ndsS lvl (ndS lvl s x).2 l else (false,(ndS lvl s x).2)
end
theorem ndsS_fold (lvl:Nat):∀(l:List GN) (s:Nat×Nat×Nat),ndsS lvl s l=foldS (ndS lvl) s l
 |[],s=>by rw [ndsS];rfl
 |x::l,s=>by
  rw [ndsS,foldS,ndsS_fold lvl l]
def Rm (s:Nat×Nat×Nat):Prop:=s.1<=64/\s.2.1<=200/\s.2.2<=400
theorem blkC_spec (s:Nat×Nat×Nat) (l:List GA) (hs:Rm s):((blkC s l).1=true->Rm (blkC s l).2/\l.all okA=true/\(blkC s l).2=(s.1,s.2.1,s.2.2+l.length))/\(l.all okA=true->s.2.2+l.length<=400->(blkC s l).1=true):=by
 unfold blkC;simp only [Bool.and_eq_true,decide_eq_true_eq];exact ⟨λ h=>⟨⟨hs.1,hs.2.1,h.1⟩,h.2,trivial⟩,λ h1 h2=>⟨h2,h1⟩⟩
theorem mvS_spec (s:Nat×Nat×Nat) (m:GM) (hs:Rm s):((mvS s m).1=true->Rm (mvS s m).2/\okM m=true/\(mvS s m).2=(s.1,s.2.1,s.2.2+m.acts.length))/\(okM m=true->s.2.2+m.acts.length<=400->(mvS s m).1=true):=by
 obtain ⟨h1,h2⟩:=blkC_spec s m.acts hs;unfold mvS okM
 cases ht:(trig m&&grd m) with
 |false =>
  rw [if_neg (by decide)];exact ⟨λ h=>(by cases h),λ h=>(by simp at h)⟩
 |true =>
  rw [if_pos rfl];simp only [Bool.and_eq_true,Bool.true_and];exact ⟨λ h=>⟨(h1 h.1).1,⟨(h1 h.1).2.1,h.2⟩,(h1 h.1).2.2⟩,λ h hl=>⟨h2 h.1 hl,h.2⟩⟩
theorem mvsS_spec:∀(l:List GM) (s:Nat×Nat×Nat),Rm s->((foldS mvS s l).1=true->Rm (foldS mvS s l).2/\l.all okM=true/\(foldS mvS s l).2=(s.1,s.2.1,s.2.2+mvG l))/\(l.all okM=true->s.2.2+mvG l<=400->(foldS mvS s l).1=true)
 |[],s,hs=>⟨λ _=>⟨hs,rfl,rfl⟩,λ _ _=>rfl⟩
 |m::l,s,hs=>by
  obtain ⟨h1,h2⟩:=mvS_spec s m hs;rw [foldS]
  by_cases c:(mvS s m).1=true
  ·rw [if_pos c];obtain ⟨h3,h4,h5⟩:=h1 c;obtain ⟨h6,h7⟩:=mvsS_spec l (mvS s m).2 h3;rw [h5] at h6 h7 ⊢;rw [List.all_cons,h4,Bool.true_and];unfold mvG;refine ⟨λ h=>?_,λ h hl=>h7 h (by show s.2.2+m.acts.length+mvG l<=400;omega)⟩;obtain ⟨a1,a2,a3⟩:=h6 h;exact ⟨a1,a2,by rw [a3,Nat.add_assoc]⟩
  ·rw [if_neg c];refine ⟨λ h=>(by cases h),λ h hl=>?_⟩;rw [List.all_cons,Bool.and_eq_true] at h;unfold mvG at hl;exact absurd (h2 h.1 (by omega)) c
theorem hdS_spec (s:Nat×Nat×Nat) (ini:List UInt8) (en le:List GA) (mo:List GM) (hs:Rm s) :
  ((hdS s ini en le mo).1=true->Rm (hdS s ini en le mo).2/\((ini.isEmpty || isNm ini)=true/\en.all okA=true/\le.all okA=true/\mo.all okM=true)/\(hdS s ini en le mo).2=(s.1,s.2.1+mo.length,s.2.2+(en.length+le.length+mvG mo))) /\
  ((ini.isEmpty || isNm ini)=true->en.all okA=true->le.all okA=true->mo.all okM=true->s.2.1+mo.length<=200->s.2.2+(en.length+le.length+mvG mo)<=400->(hdS s ini en le mo).1=true):=by
 unfold hdS
 cases c0:(ini.isEmpty || isNm ini) with
 |false=>rw [if_neg (by decide)];exact ⟨λ h=>(by cases h),λ h=>(by cases h)⟩
 |true =>
  rw [if_pos rfl];obtain ⟨e1,e2⟩:=blkC_spec s en hs
  by_cases c1:(blkC s en).1=true
  ·rw [if_pos c1];obtain ⟨e3,e4,e5⟩:=e1 c1;obtain ⟨l1,l2⟩:=blkC_spec (blkC s en).2 le e3
   by_cases c2:(blkC (blkC s en).2 le).1=true
   ·rw [if_pos c2];obtain ⟨l3,l4,l5⟩:=l1 c2;rw [l5,e5];rw [l5,e5] at l3;simp only
    by_cases c3:s.2.1+mo.length<=200
    ·rw [if_pos c3];obtain ⟨m1,m2⟩:=mvsS_spec mo (s.1,s.2.1+mo.length,s.2.2+en.length+le.length) ⟨l3.1,c3,l3.2.2⟩;refine ⟨λ h=>?_,λ _ _ _ h4 _ h6=>m2 h4 (by show s.2.2+en.length+le.length+mvG mo<=400;omega)⟩;obtain ⟨a1,a2,a3⟩:=m1 h;exact ⟨a1,⟨trivial,e4,l4,a2⟩,by rw [a3];simp only [Prod.mk.injEq,true_and];omega⟩
    ·rw [if_neg c3];exact ⟨λ h=>(by cases h),λ _ _ _ _ h=>absurd h c3⟩
   ·rw [if_neg c2];refine ⟨λ h=>(by cases h),λ _ _ h3 _ _ h6=>absurd (l2 h3 ?_) c2⟩;rw [e5];show s.2.2+en.length+le.length<=400;omega
  ·rw [if_neg c1];exact ⟨λ h=>(by cases h),λ _ h2 _ _ _ h6=>absurd (e2 h2 (by omega)) c1⟩
mutual
theorem ndS_spec:∀(x:GN) (lvl:Nat) (s:Nat×Nat×Nat),Rm s->((ndS lvl s x).1=true->Rm (ndS lvl s x).2/\okN (12-lvl) x=true/\(ndS lvl s x).2=(s.1+nN x,s.2.1+nM x,s.2.2+nA x))/\(okN (12-lvl) x=true->s.1+nN x<=64->s.2.1+nM x<=200->s.2.2+nA x<=400->(ndS lvl s x).1=true)
 |.mk k nm ini dft en le mo ks p,lvl,s,hs=>by
  rw [ndS,nN,nM,nA]
  by_cases c0:(decide (s.1+1<=64)&&decide (lvl<12)&&isNm nm)=true
  ·rw [if_pos c0];simp only [Bool.and_eq_true,decide_eq_true_eq] at c0;obtain ⟨⟨c1,c2⟩,c3⟩:=c0
   obtain ⟨d,hd⟩:∃d,12-lvl=d+1:=⟨11-lvl,by omega⟩
   have hd':12-(lvl+1)=d:=by omega
   rw [hd,okN,c3,Bool.true_and]
   have hs':Rm (s.1+1,s.2):=⟨c1,hs.2.1,hs.2.2⟩
   by_cases hk:k=1∨k=2
   ·rw [if_pos hk,if_neg (c:=k=3∨k=4) (by omega),decide_eq_true hk,Bool.true_and]
    by_cases hdf:dft.isEmpty=true
    ·rw [if_pos hdf,hdf,Bool.true_and];obtain ⟨h1,h2⟩:=hdS_spec (s.1+1,s.2) ini en le mo hs'
     by_cases c4:(hdS (s.1+1,s.2) ini en le mo).1=true
     ·rw [if_pos c4];obtain ⟨h3,⟨h4,h5,h6,h7⟩,h8⟩:=h1 c4;obtain ⟨k1,k2⟩:=ndsS_spec ks (lvl+1) (hdS (s.1+1,s.2) ini en le mo).2 h3;rw [h8] at k1 k2 ⊢;rw [hd'] at k1 k2;rw [h4,h5,h6,h7];simp only [Bool.true_and] at k1 k2 ⊢;refine ⟨λ h=>?_,λ ha hb hc hdd=>k2 ha (by omega) (by omega) (by omega)⟩;obtain ⟨a1,a2,a3⟩:=k1 h;exact ⟨a1,a2,by rw [a3];simp only [Prod.mk.injEq];omega⟩
     ·rw [if_neg c4];refine ⟨λ h=>(by cases h),λ ha hb hc hdd=>?_⟩;simp only [Bool.and_eq_true] at ha;obtain ⟨⟨⟨⟨a1,a2⟩,a3⟩,a4⟩,_⟩:=ha;exact absurd (h2 a1 a2 a3 a4 (by show s.2.1+mo.length<=200;omega) (by show s.2.2+(en.length+le.length+mvG mo)<=400;omega)) c4
    ·rw [if_neg hdf];refine ⟨λ h=>(by cases h),λ ha=>?_⟩;rw [show dft.isEmpty=false from by simpa using hdf] at ha;simp at ha
   ·rw [if_neg hk]
    by_cases hk3:k=3∨k=4
    ·rw [if_pos hk3,if_pos hk3];simp only [Bool.and_eq_true,List.isEmpty_iff];refine ⟨λ h=>?_,λ h _ _ _=>?_⟩
     ·obtain ⟨a1,⟨⟨⟨a2,a3⟩,a4⟩,a5⟩,a6⟩:=h;subst a2 a3 a4 a5 a6;exact ⟨hs',⟨⟨⟨⟨⟨a1,rfl⟩,rfl⟩,rfl⟩,rfl⟩,rfl⟩,by rw [nNs,nMs,nAs];rfl⟩
     ·obtain ⟨⟨⟨⟨⟨a1,a2⟩,a3⟩,a4⟩,a5⟩,a6⟩:=h;exact ⟨a1,⟨⟨⟨a2,a3⟩,a4⟩,a5⟩,a6⟩
    ·rw [if_neg hk3,if_neg hk3];refine ⟨λ h=>(by cases h),λ ha=>?_⟩;rw [decide_eq_false hk] at ha;simp at ha
  ·rw [if_neg c0];refine ⟨λ h=>(by cases h),λ ha hb hc hd=>absurd ?_ c0⟩;simp only [Bool.and_eq_true,decide_eq_true_eq]
   by_cases hl:lvl<12
   ·obtain ⟨d,hdd⟩:∃d,12-lvl=d+1:=⟨11-lvl,by omega⟩
    rw [hdd,okN,Bool.and_eq_true] at ha;exact ⟨⟨by omega,hl⟩,ha.1⟩
   ·rw [show 12-lvl=0 from by omega,okN] at ha;cases ha
theorem ndsS_spec:∀(l:List GN) (lvl:Nat) (s:Nat×Nat×Nat),Rm s->((ndsS lvl s l).1=true->Rm (ndsS lvl s l).2/\okNs (12-lvl) l=true/\(ndsS lvl s l).2=(s.1+nNs l,s.2.1+nMs l,s.2.2+nAs l))/\(okNs (12-lvl) l=true->s.1+nNs l<=64->s.2.1+nMs l<=200->s.2.2+nAs l<=400->(ndsS lvl s l).1=true)
 |[],lvl,s,hs=>by
  rw [ndsS,okNs,nNs,nMs,nAs];exact ⟨λ _=>⟨hs,rfl,rfl⟩,λ _ _ _ _=>rfl⟩
 |x::l,lvl,s,hs=>by
  obtain ⟨h1,h2⟩:=ndS_spec x lvl s hs;rw [ndsS,okNs,nNs,nMs,nAs]
  by_cases c:(ndS lvl s x).1=true
  ·rw [if_pos c];obtain ⟨h3,h4,h5⟩:=h1 c;obtain ⟨h6,h7⟩:=ndsS_spec l lvl (ndS lvl s x).2 h3;rw [h5] at h6 h7 ⊢;rw [h4,Bool.true_and];simp only at h6 h7 ⊢;refine ⟨λ h=>?_,λ ha hb hc hd=>h7 ha (by omega) (by omega) (by omega)⟩;obtain ⟨a1,a2,a3⟩:=h6 h;exact ⟨a1,a2,by rw [a3];simp only [Prod.mk.injEq];omega⟩
  ·rw [if_neg c];refine ⟨λ h=>(by cases h),λ ha hb hc hd=>?_⟩;rw [Bool.and_eq_true] at ha;exact absurd (h2 ha.1 (by omega) (by omega) (by omega)) c
end
theorem okC_of (c:GC):okC c=(decide (c.vars.length<=16)&&c.vars.all okV&&decide (c.root.kind=1)&&(ndS 0 (0,0,0) c.root).1):=by
 obtain ⟨h1,h2⟩:=ndS_spec c.root 0 (0,0,0) ⟨by decide,by decide,by decide⟩;unfold okC
 cases hx:(ndS 0 (0,0,0) c.root).1 with
 |true =>
  obtain ⟨h3,h4,h5⟩:=h1 hx;rw [h5] at h3
  have e1:nN c.root<=64:=by have:=h3.1;simpa using this
  have e2:nM c.root<=200:=by have:=h3.2.1;simpa using this
  have e3:nA c.root<=400:=by have:=h3.2.2;simpa using this
  rw [show okN 12 c.root=true from h4,decide_eq_true e1,decide_eq_true e2,decide_eq_true e3];simp
 |false =>
  have:(okN 12 c.root&&decide (nN c.root<=64)&&decide (nM c.root<=200)&&decide (nA c.root<=400))=false:=by
   rw [Bool.eq_false_iff];intro h;simp only [Bool.and_eq_true,decide_eq_true_eq] at h;have:=h2 h.1.1.1 (by simpa using h.1.1.2) (by simpa using h.1.2) (by simpa using h.2);rw [hx] at this;cases this
  rw [Bool.and_false];rw [Bool.eq_false_iff] at this ⊢;intro h;apply this;simp only [Bool.and_eq_true] at h ⊢;exact ⟨⟨⟨h.1.1.1.2,h.1.1.2⟩,h.1.2⟩,h.2⟩
end Go.Proofs.YtocecpghoncmgaaGreatDoor
namespace Go.Proofs.YtocecpghoncmgaaGreatDoor
open Go.RowKit
theorem notV_any (w:World) (S:ByteArray) (p q:Int) (h:Nat) (r:Bool) (hc:w.cell? ⟨h,0,none⟩=some (.func (.func 82) #[] #[])) (hh:h<w.heap.size)
  (HF:Hid (∀W,Below w.heap.size w W->Calls Tryz.prog 82 #[.agg #[.string S,.int .i64 p,.int .i64 q]] W λ e w'=>e=.returned (.bool r)/\Below W.heap.size W w')) :
  Calls Tryz.prog 136 #[.agg #[.string S,.int .i64 p,.int .i64 q],.pointer (some ⟨h,0,none⟩)] w λ e w'=>e=.returned (.bool (!r))/\Below w.heap.size w w':=by
 obtain ⟨W0,hW0⟩:∃W,W=w.alloc (.cells #[.string S,.int .i64 p,.int .i64 q] 73):=⟨_,rfl⟩
 obtain ⟨g0,hg0⟩:∃g,g=w.heap.size:=⟨_,rfl⟩
 have HB:Hid (Below w.heap.size w W0):=by rw [hW0];exact (b_ _ w).alloc (n_ _) _
 have HX:Hid (CB W0 g0 73 [.string S,.int .i64 p,.int .i64 q]):=by rw [hW0,hg0];exact CB.new w _ [.string S,.int .i64 p,.int .i64 q]
 have c0:W0.cell? ⟨h,0,none⟩=some (.func (.func 82) #[] #[]):=by rw [World.cell?_of_block (HB.out.block h hh)];exact hc
 have HC:=h_ (HF.out W0 HB.out);have z0:=HX.out.c 0 rfl;have z1:=HX.out.c 1 rfl;have z2:=HX.out.c 2 rfl;clear hc hh HF;go_enter Tryz.func136,Tryz.ntmps136;go_upto_region 1 with fail;rw [<-hW0,<-hg0];clear hW0 hg0;go_wp2_with fail;refine HC.out.mono ?_;rintro e w2 ⟨rfl,hb⟩;have HB2:=h_ (HB.out.trans (hb.mono HB.out.size));clear hb HC HX z0 z1 z2 c0;go_wp2_with fail;go_ret;exact ⟨rfl,HB2.out⟩
def allWV (w:World) (l:List SyVar) (v:Value):Prop:=∀(i:Nat) (a:SyVar),l[i]?=some a->∃(g og c:Nat) (_:Unit),v=.slice (some ⟨g,og,none⟩) l.length c/\g<w.heap.size/\w.cell? ⟨g,og+i*3,none⟩=some (txV a.name)/\w.cell? ⟨g,og+i*3+1,none⟩=some (.int .i64 a.num)/\w.cell? ⟨g,og+i*3+2,none⟩=some (.int .i64 a.at_) /\
 ∀W,Below w.heap.size w W->Calls Tryz.prog 82 #[.agg #[txV a.name,.int .i64 a.num,.int .i64 a.at_]] W λ e w'=>e=.returned (.bool (okV a))/\Below W.heap.size W w'
theorem firstV_any (w0 w:World) (l:List SyVar) (A:Option Addr) (c h n:Nat) (hn:l.length=n) (hm:n<=9223372036854775807) (H0:Hid (allWV w0 l (.slice A n c))) (hb0:Below w0.heap.size w0 w) (hc:w.cell? ⟨h,0,none⟩=some (.func (.func 82) #[] #[])) (hh:h<w.heap.size) :
  Calls Tryz.prog 189 #[.slice A n c,.func (.func 136) #[] #[.pointer (some ⟨h,0,none⟩)]] w λ e w'=>∃r:Int,e=.returned (.int .i64 r)/\decide (0<=r)=!(l.all okV)/\Below w.heap.size w w':=by
 have HN:=h_ hn;have HM:=h_ hm;have HB0:=h_ hb0;have HC0:=h_ (And.intro hc hh);clear hn hm hb0 hc hh;go_enter Tryz.func189,Tryz.ntmps189;go_wp2_with fail
 go_loopw [8] (λ iv wr=>∃i:Nat,i<=n/\iv=.int .i64 (i:Int)/\Hid ((l.take i).all okV=true)/\Hid (Below w.heap.size w wr)) (λ iv _=>n-(intOf iv).toNat)
 case atStart=>exact ⟨0,Nat.zero_le _,rfl,rfl,b_ _ w⟩
 case round =>
  obtain ⟨i,hi,rfl,HT,HBW⟩:=hrel
  by_cases him:i<n
  ·have him':(i:Int)<n:=by omega
   have HIM:=h_ him
   obtain ⟨a,ha⟩:∃a,l[i]?=some a:=⟨_,List.getElem?_eq_getElem (by rw [HN.out];exact him)⟩
   have hyc:=H0.out i a ha;rw [HN.out] at hyc;obtain ⟨g,og,c',_,hv,hg,y0,y1,y2,hcall⟩:=hyc
   obtain rfl:A=some ⟨g,og,none⟩:=by injection hv
   have hbw:Below w0.heap.size w0 wr:=HB0.out.trans (HBW.out.mono HB0.out.size)
   have kb:∀{p:Addr} {u:Value},w0.cell? p=some u->wr.cell? p=some u:=λ hc=>by rw [World.cell?_of_block (hbw.block _ (World.block_lt_of_cell? w0 _ hc))];exact hc
   have u0:=kb y0;have u1:=kb y1;have u2:=kb y2;have HCL:=h_ (notV_any wr ⟨a.name.toArray⟩ a.num a.at_ h (okV a) (by rw [World.cell?_of_block (HBW.out.block h HC0.out.2)];exact HC0.out.1) (Nat.lt_of_lt_of_le HC0.out.2 HBW.out.size) (λ W hb=>hcall W (hbw.trans (hb.mono hbw.size))))
   obtain ⟨r,hr⟩:∃r,okV a=r:=⟨_,rfl⟩
   rw [hr] at HCL;have HAR:=h_ (And.intro ha hr);clear ha hr hv hg hcall hbw kb y0 y1 y2;cases r
   ·go_wp2_with fail;refine HCL.out.mono ?_;rintro e w2 ⟨rfl,hb⟩;have HB2:=h_ (HBW.out.trans (hb.mono HBW.out.size));clear hb HCL u0 u1 u2 HBW;go_wp2_with fail;go_ret;refine ⟨_,rfl,?_,HB2.out⟩
    have hf:l.all okV=false:=by
     rw [List.all_eq_false];exact ⟨a,List.mem_of_getElem? HAR.out.1,by rw [HAR.out.2];decide⟩
    rw [hf];simp
   ·go_wp2_with fail;refine HCL.out.mono ?_;rintro e w2 ⟨rfl,hb⟩;have HB2:=h_ (HBW.out.trans (hb.mono HBW.out.size));clear hb HCL u0 u1 u2 HBW;go_wp2_with fail
    go_roundw
    case rel =>
     refine ⟨i+1,by have:=HIM.out;omega,by have h1:=HIM.out;have h2:=HM.out;rw [Go.IntWalk.wrap64_in _ ⟨by omega,by omega⟩];rfl,?_,HB2⟩;show (l.take (i+1)).all okV=true;rw [List.take_add_one,HAR.out.1,List.all_append,HT.out];simp [HAR.out.2]
    case measure=>have h1:=HIM.out;have h2:=HM.out;rw [Go.IntWalk.wrap64_in _ ⟨by omega,by omega⟩];simp [intOf];omega
  ·have him':¬(i:Int)<n:=by omega
   have HALL:Hid (l.all okV=true):=by
    have:=HT.out;rw [List.take_of_length_le (by rw [HN.out];omega)] at this;exact this
   clear hi;go_wp2_with fail;go_ret;exact ⟨_,rfl,by rw [HALL.out];rfl,HBW.out⟩
theorem contV_any (w0 w:World) (l:List SyVar) (A:Option Addr) (c h n:Nat) (R:Bool) (hR:l.all okV=R) (hn:l.length=n) (hm:n<=9223372036854775807) (H0:Hid (allWV w0 l (.slice A n c))) (hb0:Below w0.heap.size w0 w) (hc:w.cell? ⟨h,0,none⟩=some (.func (.func 82) #[] #[])) (hh:h<w.heap.size) :
  Calls Tryz.prog 135 #[.slice A n c,.func (.func 136) #[] #[.pointer (some ⟨h,0,none⟩)]] w λ e w'=>e=.returned (.bool (!R))/\Below w.heap.size w w':=by
 have HC:=h_ (firstV_any w0 w l A c h n hn hm H0 hb0 hc hh);rw [hR] at HC;clear hn hm H0 hb0 hc hh hR;go_enter Tryz.func135,Tryz.ntmps135;go_wp2_with fail;refine HC.out.mono ?_;rintro e w2 ⟨r,rfl,hr,hb⟩;have HB2:=h_ hb;have HR2:=h_ hr;clear hb hr HC;go_wp2_with fail;go_ret;refine ⟨?_,HB2.out⟩;rw [<-HR2.out];rfl
theorem everyV_any (w:World) (l:List SyVar) (A:Option Addr) (c n:Nat) (hn:l.length=n) (hm:n<=9223372036854775807) (H0:Hid (allWV w l (.slice A n c))) :
  Calls Tryz.prog 81 #[.slice A n c,.func (.func 82) #[] #[]] w λ e w'=>e=.returned (.bool (l.all okV))/\Below w.heap.size w w':=by
 obtain ⟨W0,hW0⟩:∃W,W=w.alloc (.cells #[.func (.func 82) #[] #[]] 147):=⟨_,rfl⟩
 obtain ⟨g0,hg0⟩:∃g,g=w.heap.size:=⟨_,rfl⟩
 have HB:Hid (Below w.heap.size w W0):=by rw [hW0];exact (b_ _ w).alloc (n_ _) _
 have HX:Hid (CB W0 g0 147 [.func (.func 82) #[] #[]]):=by rw [hW0,hg0];exact CB.new w _ [.func (.func 82) #[] #[]]
 obtain ⟨R,hR⟩:∃R,l.all okV=R:=⟨_,rfl⟩
 have HC:=h_ (contV_any w W0 l A c g0 n R hR hn hm H0 HB.out (HX.out.c 0 rfl) HX.out.lt);rw [hR];clear hn hm H0 hR HX;go_enter Tryz.func81,Tryz.ntmps81;go_upto_region 1 with fail;rw [<-hW0,<-hg0];clear hW0 hg0;go_wp2_with fail;refine HC.out.mono ?_;rintro e w2 ⟨rfl,hb⟩;have HB2:=h_ (HB.out.trans (hb.mono HB.out.size));clear hb HC;go_wp2_with fail;go_ret;exact ⟨by cases R <;> rfl,HB2.out⟩
end Go.Proofs.YtocecpghoncmgaaGreatDoor
namespace Go.Proofs.YtocecpghoncmgaaGreatDoor
open Go.RowKit
theorem notA_any (w:World) (k q:Int) (S:ByteArray) (ev:EV) (h:Nat) (r:Bool) (hc:w.cell? ⟨h,0,none⟩=some (.func (.func 240) #[] #[])) (hh:h<w.heap.size)
  (HF:Hid (∀W,Below w.heap.size w W->Calls Tryz.prog 240 #[.agg #[.int .i64 k,.string S,.int .i64 ev.kind,.int .i64 ev.num,.string ev.name,.int .i64 ev.op,.slice ev.A ev.len ev.cap,.int .i64 ev.p,.int .i64 q]] W λ e w'=>e=.returned (.bool r)/\Below W.heap.size W w')) :
  Calls Tryz.prog 277 #[.agg #[.int .i64 k,.string S,.int .i64 ev.kind,.int .i64 ev.num,.string ev.name,.int .i64 ev.op,.slice ev.A ev.len ev.cap,.int .i64 ev.p,.int .i64 q],.pointer (some ⟨h,0,none⟩)] w λ e w'=>e=.returned (.bool (!r))/\Below w.heap.size w w':=by
 obtain ⟨W0,hW0⟩:∃W,W=w.alloc (.cells #[.int .i64 k,.string S,.int .i64 ev.kind,.int .i64 ev.num,.string ev.name,.int .i64 ev.op,.slice ev.A ev.len ev.cap,.int .i64 ev.p,.int .i64 q] 156):=⟨_,rfl⟩
 obtain ⟨g0,hg0⟩:∃g,g=w.heap.size:=⟨_,rfl⟩
 have HB:Hid (Below w.heap.size w W0):=by rw [hW0];exact (b_ _ w).alloc (n_ _) _
 have HX:Hid (CB W0 g0 156 [.int .i64 k,.string S,.int .i64 ev.kind,.int .i64 ev.num,.string ev.name,.int .i64 ev.op,.slice ev.A ev.len ev.cap,.int .i64 ev.p,.int .i64 q]):=by rw [hW0,hg0];exact CB.new w _ [.int .i64 k,.string S,.int .i64 ev.kind,.int .i64 ev.num,.string ev.name,.int .i64 ev.op,.slice ev.A ev.len ev.cap,.int .i64 ev.p,.int .i64 q]
 have c0:W0.cell? ⟨h,0,none⟩=some (.func (.func 240) #[] #[]):=by rw [World.cell?_of_block (HB.out.block h hh)];exact hc
 have HC:=h_ (HF.out W0 HB.out);have z0:=HX.out.c 0 rfl;have z1:=HX.out.c 1 rfl;have z2:=HX.out.c 2 rfl;have z3:=HX.out.c 3 rfl;have z4:=HX.out.c 4 rfl;have z5:=HX.out.c 5 rfl;have z6:=HX.out.c 6 rfl;have z7:=HX.out.c 7 rfl;have z8:=HX.out.c 8 rfl;clear hc hh HF;go_enter Tryz.func277,Tryz.ntmps277;go_upto_region 1 with fail;rw [<-hW0,<-hg0];clear hW0 hg0;go_wp2_with fail;refine HC.out.mono ?_;rintro e w2 ⟨rfl,hb⟩;have HB2:=h_ (HB.out.trans (hb.mono HB.out.size));clear hb HC HX z0 z1 z2 z3 z4 z5 z6 z7 z8 c0;go_wp2_with fail;go_ret;exact ⟨rfl,HB2.out⟩
def allWA (w:World) (l:List GA) (v:Value):Prop:=∀(i:Nat) (a:GA),l[i]?=some a->∃(g og c:Nat) (ev:EV),v=.slice (some ⟨g,og,none⟩) l.length c/\g<w.heap.size/\w.cell? ⟨g,og+i*9,none⟩=some (.int .i64 a.kind)/\w.cell? ⟨g,og+i*9+1,none⟩=some (txV a.name)/\w.cell? ⟨g,og+i*9+2,none⟩=some (.int .i64 ev.kind)/\w.cell? ⟨g,og+i*9+3,none⟩=some (.int .i64 ev.num)/\w.cell? ⟨g,og+i*9+4,none⟩=some (.string ev.name)/\w.cell? ⟨g,og+i*9+5,none⟩=some (.int .i64 ev.op)/\w.cell? ⟨g,og+i*9+6,none⟩=some (.slice ev.A ev.len ev.cap)/\w.cell? ⟨g,og+i*9+7,none⟩=some (.int .i64 ev.p)/\w.cell? ⟨g,og+i*9+8,none⟩=some (.int .i64 a.at_) /\
 ∀W,Below w.heap.size w W->Calls Tryz.prog 240 #[.agg #[.int .i64 a.kind,txV a.name,.int .i64 ev.kind,.int .i64 ev.num,.string ev.name,.int .i64 ev.op,.slice ev.A ev.len ev.cap,.int .i64 ev.p,.int .i64 a.at_]] W λ e w'=>e=.returned (.bool (okA a))/\Below W.heap.size W w'
theorem firstA_any (w0 w:World) (l:List GA) (A:Option Addr) (c h n:Nat) (hn:l.length=n) (hm:n<=9223372036854775807) (H0:Hid (allWA w0 l (.slice A n c))) (hb0:Below w0.heap.size w0 w) (hc:w.cell? ⟨h,0,none⟩=some (.func (.func 240) #[] #[])) (hh:h<w.heap.size) :
  Calls Tryz.prog 311 #[.slice A n c,.func (.func 277) #[] #[.pointer (some ⟨h,0,none⟩)]] w λ e w'=>∃r:Int,e=.returned (.int .i64 r)/\decide (0<=r)=!(l.all okA)/\Below w.heap.size w w':=by
 have HN:=h_ hn;have HM:=h_ hm;have HB0:=h_ hb0;have HC0:=h_ (And.intro hc hh);clear hn hm hb0 hc hh;go_enter Tryz.func311,Tryz.ntmps311;go_wp2_with fail
 go_loopw [8] (λ iv wr=>∃i:Nat,i<=n/\iv=.int .i64 (i:Int)/\Hid ((l.take i).all okA=true)/\Hid (Below w.heap.size w wr)) (λ iv _=>n-(intOf iv).toNat)
 case atStart=>exact ⟨0,Nat.zero_le _,rfl,rfl,b_ _ w⟩
 case round =>
  obtain ⟨i,hi,rfl,HT,HBW⟩:=hrel
  by_cases him:i<n
  ·have him':(i:Int)<n:=by omega
   have HIM:=h_ him
   obtain ⟨a,ha⟩:∃a,l[i]?=some a:=⟨_,List.getElem?_eq_getElem (by rw [HN.out];exact him)⟩
   have hyc:=H0.out i a ha;rw [HN.out] at hyc;obtain ⟨g,og,c',ev,hv,hg,y0,y1,y2,y3,y4,y5,y6,y7,y8,hcall⟩:=hyc
   obtain rfl:A=some ⟨g,og,none⟩:=by injection hv
   have hbw:Below w0.heap.size w0 wr:=HB0.out.trans (HBW.out.mono HB0.out.size)
   have kb:∀{p:Addr} {u:Value},w0.cell? p=some u->wr.cell? p=some u:=λ hc=>by rw [World.cell?_of_block (hbw.block _ (World.block_lt_of_cell? w0 _ hc))];exact hc
   have u0:=kb y0;have u1:=kb y1;have u2:=kb y2;have u3:=kb y3;have u4:=kb y4;have u5:=kb y5;have u6:=kb y6;have u7:=kb y7;have u8:=kb y8;have HCL:=h_ (notA_any wr a.kind a.at_ ⟨a.name.toArray⟩ ev h (okA a) (by rw [World.cell?_of_block (HBW.out.block h HC0.out.2)];exact HC0.out.1) (Nat.lt_of_lt_of_le HC0.out.2 HBW.out.size) (λ W hb=>hcall W (hbw.trans (hb.mono hbw.size))))
   obtain ⟨r,hr⟩:∃r,okA a=r:=⟨_,rfl⟩
   rw [hr] at HCL;have HAR:=h_ (And.intro ha hr);clear ha hr hv hg hcall hbw kb y0 y1 y2 y3 y4 y5 y6 y7 y8;cases r
   ·go_wp2_with fail;refine HCL.out.mono ?_;rintro e w2 ⟨rfl,hb⟩;have HB2:=h_ (HBW.out.trans (hb.mono HBW.out.size));clear hb HCL u0 u1 u2 u3 u4 u5 u6 u7 u8 HBW;go_wp2_with fail;go_ret;refine ⟨_,rfl,?_,HB2.out⟩
    have hf:l.all okA=false:=by
     rw [List.all_eq_false];exact ⟨a,List.mem_of_getElem? HAR.out.1,by rw [HAR.out.2];decide⟩
    rw [hf];simp
   ·go_wp2_with fail;refine HCL.out.mono ?_;rintro e w2 ⟨rfl,hb⟩;have HB2:=h_ (HBW.out.trans (hb.mono HBW.out.size));clear hb HCL u0 u1 u2 u3 u4 u5 u6 u7 u8 HBW;go_wp2_with fail
    go_roundw
    case rel =>
     refine ⟨i+1,by have:=HIM.out;omega,by have h1:=HIM.out;have h2:=HM.out;rw [Go.IntWalk.wrap64_in _ ⟨by omega,by omega⟩];rfl,?_,HB2⟩;show (l.take (i+1)).all okA=true;rw [List.take_add_one,HAR.out.1,List.all_append,HT.out];simp [HAR.out.2]
    case measure=>have h1:=HIM.out;have h2:=HM.out;rw [Go.IntWalk.wrap64_in _ ⟨by omega,by omega⟩];simp [intOf];omega
  ·have him':¬(i:Int)<n:=by omega
   have HALL:Hid (l.all okA=true):=by
    have:=HT.out;rw [List.take_of_length_le (by rw [HN.out];omega)] at this;exact this
   clear hi;go_wp2_with fail;go_ret;exact ⟨_,rfl,by rw [HALL.out];rfl,HBW.out⟩
theorem contA_any (w0 w:World) (l:List GA) (A:Option Addr) (c h n:Nat) (R:Bool) (hR:l.all okA=R) (hn:l.length=n) (hm:n<=9223372036854775807) (H0:Hid (allWA w0 l (.slice A n c))) (hb0:Below w0.heap.size w0 w) (hc:w.cell? ⟨h,0,none⟩=some (.func (.func 240) #[] #[])) (hh:h<w.heap.size) :
  Calls Tryz.prog 276 #[.slice A n c,.func (.func 277) #[] #[.pointer (some ⟨h,0,none⟩)]] w λ e w'=>e=.returned (.bool (!R))/\Below w.heap.size w w':=by
 have HC:=h_ (firstA_any w0 w l A c h n hn hm H0 hb0 hc hh);rw [hR] at HC;clear hn hm H0 hb0 hc hh hR;go_enter Tryz.func276,Tryz.ntmps276;go_wp2_with fail;refine HC.out.mono ?_;rintro e w2 ⟨r,rfl,hr,hb⟩;have HB2:=h_ hb;have HR2:=h_ hr;clear hb hr HC;go_wp2_with fail;go_ret;refine ⟨?_,HB2.out⟩;rw [<-HR2.out];rfl
theorem everyA_any (w:World) (l:List GA) (A:Option Addr) (c n:Nat) (hn:l.length=n) (hm:n<=9223372036854775807) (H0:Hid (allWA w l (.slice A n c))) :
  Calls Tryz.prog 239 #[.slice A n c,.func (.func 240) #[] #[]] w λ e w'=>e=.returned (.bool (l.all okA))/\Below w.heap.size w w':=by
 obtain ⟨W0,hW0⟩:∃W,W=w.alloc (.cells #[.func (.func 240) #[] #[]] 265):=⟨_,rfl⟩
 obtain ⟨g0,hg0⟩:∃g,g=w.heap.size:=⟨_,rfl⟩
 have HB:Hid (Below w.heap.size w W0):=by rw [hW0];exact (b_ _ w).alloc (n_ _) _
 have HX:Hid (CB W0 g0 265 [.func (.func 240) #[] #[]]):=by rw [hW0,hg0];exact CB.new w _ [.func (.func 240) #[] #[]]
 obtain ⟨R,hR⟩:∃R,l.all okA=R:=⟨_,rfl⟩
 have HC:=h_ (contA_any w W0 l A c g0 n R hR hn hm H0 HB.out (HX.out.c 0 rfl) HX.out.lt);rw [hR];clear hn hm H0 hR HX;go_enter Tryz.func239,Tryz.ntmps239;go_upto_region 1 with fail;rw [<-hW0,<-hg0];clear hW0 hg0;go_wp2_with fail;refine HC.out.mono ?_;rintro e w2 ⟨rfl,hb⟩;have HB2:=h_ (HB.out.trans (hb.mono HB.out.size));clear hb HC;go_wp2_with fail;go_ret;exact ⟨by cases R <;> rfl,HB2.out⟩
end Go.Proofs.YtocecpghoncmgaaGreatDoor
namespace Go.Proofs.YtocecpghoncmgaaGreatDoor
open Go.RowKit
structure Ee (w:World):Prop where
 vr:Vars w
 sg:SgAt w
 pw:PowTab w
theorem Ee.below {w w':World} (h:Ee w) (hb:Below w.heap.size w w'):Ee w':=⟨h.vr.below hb,h.sg.below hb,h.pw.below hb⟩
theorem Ee.vs {w:World} (h:Ee w):Vs w:=⟨h.vr.kw,h.sg⟩
theorem Ee.wv {w:World} (h:Ee w):Wv w:=⟨h.vr.kw,h.sg,h.pw⟩
end Go.Proofs.YtocecpghoncmgaaGreatDoor
namespace Go.Proofs.YtocecpghoncmgaaGreatDoor
open Go.RowKit
theorem strs_sl {w:World} {l:List (List UInt8)} {A:Option Addr} {c:Nat} (h:DxAt w (dvStrs l) (.slice A l.length c)):l.length<=c/\c<=maxLen/\StrAt w A (l.map λ s=>(⟨s.toArray⟩:ByteArray)):=by
 obtain ⟨A',c',hv,h1,h2,h3⟩:=strs_dx h;injection hv with e1 _ e2;subst e1 e2;exact ⟨h1,h2,h3⟩
end Go.Proofs.YtocecpghoncmgaaGreatDoor
namespace Go.Proofs.YtocecpghoncmgaaGreatDoor
open Go.RowKit
theorem node_v {w:World} {k p:Int} {nm ini dft:List UInt8} {en le:List GA} {mo:List GM} {ks:List GN} {xs:List Value} (h:DxsAt w (gNode (.mk k nm ini dft en le mo ks p)) xs) :
  ∃(A1 A2 A3 A4:Option Addr) (c1 c2 c3 c4:Nat),xs=[.int .i64 k,txV nm,txV ini,txV dft,.slice A1 en.length c1,.slice A2 le.length c2,.slice A3 mo.length c3,.slice A4 ks.length c4,.int .i64 p] /\
   DxAt w (gActs en) (.slice A1 en.length c1)/\DxAt w (gActs le) (.slice A2 le.length c2)/\DxAt w (gMoves mo) (.slice A3 mo.length c3)/\DxAt w (gKids ks) (.slice A4 ks.length c4):=by
 have h':DxsAt w (gNode (.mk k nm ini dft en le mo ks p)++[]) xs:=by rw [List.append_nil];exact h
 obtain ⟨A1,A2,A3,A4,c1,c2,c3,c4,ys,rfl,h1,h2,h3,h4,h5⟩:=node_vals' h';unfold DxsAt at h5;subst h5;exact ⟨A1,A2,A3,A4,c1,c2,c3,c4,rfl,h1,h2,h3,h4⟩
end Go.Proofs.YtocecpghoncmgaaGreatDoor
namespace Go.Proofs.YtocecpghoncmgaaGreatDoor
open Go.RowKit
theorem toArr {X:ByteArray} {l:List UInt8} (h:txV l=.string X):X.data.toList=l:=by
 have:X=⟨l.toArray⟩:=by injection h with h;exact h.symm
 rw [this]
theorem dec_beq (a b:Int):decide (a=b)=(a==b):=by
 by_cases h:a=b
 ·rw [h];simp
 ·rw [decide_eq_false h];simp [h]
theorem len_beq {α:Type} (l:List α):l.isEmpty=((l.length:Int)==0):=by
 cases l with
 |nil=>rfl
 |cons a l =>
  have:((a::l).length:Int)≠0:=by rw [List.length_cons];omega
  show false=_
  symm
  exact beq_eq_false_iff_ne.2 this
theorem nothing_any (w:World) (x:GX) (ev:EV) (hg:GV w 0 w.heap.size x ev) :
  Calls Tryz.prog 279 #[.agg #[.int .i64 ev.kind,.int .i64 ev.num,.string ev.name,.int .i64 ev.op,.slice ev.A ev.len ev.cap,.int .i64 ev.p]] w λ e w'=>e=.returned (.bool (nothing x))/\Below w.heap.size w w':=by
 obtain ⟨W1,hW1⟩:∃W,W=w.alloc (.cells #[.int .i64 ev.kind,.int .i64 ev.num,.string ev.name,.int .i64 ev.op,.slice ev.A ev.len ev.cap,.int .i64 ev.p] 55):=⟨_,rfl⟩
 obtain ⟨g1,hg1⟩:∃g,g=w.heap.size:=⟨_,rfl⟩
 have HB:Hid (Below w.heap.size w W1):=by rw [hW1];exact (b_ _ w).alloc (n_ _) _
 have HX:Hid (CB W1 g1 55 [.int .i64 ev.kind,.int .i64 ev.num,.string ev.name,.int .i64 ev.op,.slice ev.A ev.len ev.cap,.int .i64 ev.p]):=by rw [hW1,hg1];exact CB.new w _ [.int .i64 ev.kind,.int .i64 ev.num,.string ev.name,.int .i64 ev.op,.slice ev.A ev.len ev.cap,.int .i64 ev.p]
 have hR:nothing x=((ev.kind==0)&&(ev.num==0)&&ev.name.toList.isEmpty&&(ev.op==0)&&((ev.len:Int)==0)):=by
  obtain ⟨a1,a2,a3,a4,a5,a6,_⟩:=hg.out;unfold nothing;rw [dec_beq,dec_beq,dec_beq,len_beq x.subs,<-a1,<-a2,<-a3,<-a4,<-a6,Lib.toList_data]
 obtain ⟨q1,hq1⟩:∃q:Bool,(ev.kind==0)=q:=⟨_,rfl⟩
 obtain ⟨q2,hq2⟩:∃q:Bool,(ev.num==0)=q:=⟨_,rfl⟩
 obtain ⟨q3,hq3⟩:∃q:Bool,(ev.name.toList.isEmpty)=q:=⟨_,rfl⟩
 obtain ⟨q4,hq4⟩:∃q:Bool,(ev.op==0)=q:=⟨_,rfl⟩
 obtain ⟨q5,hq5⟩:∃q:Bool,((ev.len:Int)==0)=q:=⟨_,rfl⟩
 rw [hq1,hq2,hq3,hq4,hq5] at hR;have HR:=h_ hR;have z0:=HX.out.c 0 rfl;have z1:=HX.out.c 1 rfl;have z2:=HX.out.c 2 rfl;have z3:=HX.out.c 3 rfl;have z4:=HX.out.c 4 rfl;clear hR hg;go_enter Tryz.func279,Tryz.ntmps279;go_upto_region 1 with fail;rw [<-hW1,<-hg1];clear hW1 hg1;cases q1
 ·go_wp2_with fail;go_ret;exact ⟨by rw [HR.out];rfl,HB.out⟩
 ·cases q2
  ·go_wp2_with fail;go_ret;exact ⟨by rw [HR.out];rfl,HB.out⟩
  ·cases q3
   ·go_wp2_with fail;go_ret;exact ⟨by rw [HR.out];rfl,HB.out⟩
   ·cases q4
    ·go_wp2_with fail;go_ret;exact ⟨by rw [HR.out];rfl,HB.out⟩
    ·cases q5
     ·go_wp2_with fail;go_ret;exact ⟨by rw [HR.out];rfl,HB.out⟩
     ·go_wp2_with fail;go_ret;exact ⟨by rw [HR.out];rfl,HB.out⟩
theorem isvar_any (w:World) (v:SyVar) (X:ByteArray) (hX:txV v.name=.string X) (hr:v.rng) (hK:KwAt w) :
  Calls Tryz.prog 82 #[.agg #[.string X,.int .i64 v.num,.int .i64 v.at_]] w λ e w'=>e=.returned (.bool (okV v))/\Below w.heap.size w w':=by
 obtain ⟨W1,hW1⟩:∃W,W=w.alloc (.cells #[.string X,.int .i64 v.num,.int .i64 v.at_] 73):=⟨_,rfl⟩
 obtain ⟨g1,hg1⟩:∃g,g=w.heap.size:=⟨_,rfl⟩
 have HB:Hid (Below w.heap.size w W1):=by rw [hW1];exact (b_ _ w).alloc (n_ _) _
 have HX:Hid (CB W1 g1 73 [.string X,.int .i64 v.num,.int .i64 v.at_]):=by rw [hW1,hg1];exact CB.new w _ [.string X,.int .i64 v.num,.int .i64 v.at_]
 have hS:X.size<=140737488351232:=by
  have h1:=hr.1;rw [<-toArr hX] at h1;exact h1
 have HN:=h_ (name_any X W1 hS (hK.below HB.out));rw [toArr hX] at HN
 have hR:okV v=(isNm v.name&&(v.num != -9223372036854775808)):=by
  unfold okV
  congr 1
  by_cases h:v.num=-9223372036854775808
  ·rw [h];decide
  ·rw [decide_eq_true h];simp [h]
 obtain ⟨q1,hq1⟩:∃q:Bool,(isNm v.name)=q:=⟨_,rfl⟩
 obtain ⟨q2,hq2⟩:∃q:Bool,(v.num != -9223372036854775808)=q:=⟨_,rfl⟩
 rw [hq1,hq2] at hR;rw [hq1] at HN;have HR:=h_ hR;have z0:=HX.out.c 0 rfl;have z1:=HX.out.c 1 rfl;clear hR hX hr hK hS;go_enter Tryz.func82,Tryz.ntmps82;go_upto_region 1 with fail;rw [<-hW1,<-hg1];clear hW1 hg1;cases q1
 ·go_wp2_with fail;refine HN.out.mono ?_;rintro e w2 ⟨rfl,rfl⟩;go_wp2_with fail;go_ret;exact ⟨by rw [HR.out];rfl,HB.out⟩
 ·cases q2
  ·go_wp2_with fail;refine HN.out.mono ?_;rintro e w2 ⟨rfl,rfl⟩;go_wp2_with fail;go_ret;exact ⟨by rw [HR.out];rfl,HB.out⟩
  ·go_wp2_with fail;refine HN.out.mono ?_;rintro e w2 ⟨rfl,rfl⟩;go_wp2_with fail;go_ret;exact ⟨by rw [HR.out];rfl,HB.out⟩
theorem isact_any (w:World) (a:GA) (ev:EV) (X:ByteArray) (hX:txV a.name=.string X) (hg:GV w 0 w.heap.size a.val ev) (hr:a.rng) (hE:Ee w) :
  Calls Tryz.prog 240 #[.agg #[.int .i64 a.kind,.string X,.int .i64 ev.kind,.int .i64 ev.num,.string ev.name,.int .i64 ev.op,.slice ev.A ev.len ev.cap,.int .i64 ev.p,.int .i64 a.at_]] w λ e w'=>e=.returned (.bool (okA a))/\Below w.heap.size w w':=by
 obtain ⟨W1,hW1⟩:∃W,W=w.alloc (.cells #[.int .i64 a.kind,.string X,.int .i64 ev.kind,.int .i64 ev.num,.string ev.name,.int .i64 ev.op,.slice ev.A ev.len ev.cap,.int .i64 ev.p,.int .i64 a.at_] 156):=⟨_,rfl⟩
 obtain ⟨g1,hg1⟩:∃g,g=w.heap.size:=⟨_,rfl⟩
 have HB:Hid (Below w.heap.size w W1):=by rw [hW1];exact (b_ _ w).alloc (n_ _) _
 have HX:Hid (CB W1 g1 156 [.int .i64 a.kind,.string X,.int .i64 ev.kind,.int .i64 ev.num,.string ev.name,.int .i64 ev.op,.slice ev.A ev.len ev.cap,.int .i64 ev.p,.int .i64 a.at_]):=by rw [hW1,hg1];exact CB.new w _ [.int .i64 a.kind,.string X,.int .i64 ev.kind,.int .i64 ev.num,.string ev.name,.int .i64 ev.op,.slice ev.A ev.len ev.cap,.int .i64 ev.p,.int .i64 a.at_]
 have hS:X.size<=140737488351232:=by
  have h1:=hr.1;rw [<-toArr hX] at h1;exact h1
 have HN:=h_ (name_any X W1 hS (hE.vr.kw.below HB.out));rw [toArr hX] at HN;have hg1':GV W1 0 W1.heap.size a.val ev:=(GV.below hg HB.out (n_ _)).mono (n_ 0) HB.out.size;have HRI:=h_ (eright_any W1 a.val ev (hE.below HB.out).wv hr.2 hg1');simp only [EV.val] at HRI;have HNO:=h_ (nothing_any W1 a.val ev hg1')
 obtain ⟨q1,hq1⟩:∃q:Bool,(isNm a.name)=q:=⟨_,rfl⟩
 rw [hq1] at HN;clear hg1' hg hr hE hX hS
 by_cases k1:a.kind=1∨a.kind=2∨a.kind=3
 rcases k1 with hK|hK|hK
 ·have hR:okA a=(isNm a.name&&a.val.right.isSome):=by
   unfold okA;rw [if_pos (by rw [hK];decide)]
  obtain ⟨q2,hq2⟩:∃q:Bool,a.val.right.isSome=q:=⟨_,rfl⟩
  rw [hq1,hq2] at hR;rw [hq2] at HRI;have HR:=h_ hR;rw [hK] at HX;have z0:=HX.out.c 0 rfl;have z1:=HX.out.c 1 rfl;have z2:=HX.out.c 2 rfl;have z3:=HX.out.c 3 rfl;have z4:=HX.out.c 4 rfl;have z5:=HX.out.c 5 rfl;have z6:=HX.out.c 6 rfl;have z7:=HX.out.c 7 rfl;rw [hK] at hW1 ⊢;clear hR hK hq2 hq1;go_enter Tryz.func240,Tryz.ntmps240;go_upto_region 1 with fail;rw [<-hW1,<-hg1];clear hW1 hg1;cases q1
  ·go_wp2_with fail;refine HN.out.mono ?_;rintro e w2 ⟨rfl,rfl⟩;go_wp2_with fail;go_ret;exact ⟨by rw [HR.out];rfl,HB.out⟩
  ·go_wp2_with fail;refine HN.out.mono ?_;rintro e w2 ⟨rfl,rfl⟩;go_wp2_with fail;refine HRI.out.mono ?_;rintro e w3 ⟨rfl,hb⟩;have HB3:=h_ (HB.out.trans (hb.mono HB.out.size));clear hb HN HRI HX;go_wp2_with fail;go_ret;exact ⟨by rw [HR.out];cases q2 <;> rfl,HB3.out⟩
 ·have hR:okA a=(isNm a.name&&nothing a.val):=by
   unfold okA;rw [if_neg (by rw [hK];decide),hK];rfl
  obtain ⟨q2,hq2⟩:∃q:Bool,nothing a.val=q:=⟨_,rfl⟩
  rw [hq1,hq2] at hR;rw [hq2] at HNO;have HR:=h_ hR;rw [hK] at HX;have z0:=HX.out.c 0 rfl;have z1:=HX.out.c 1 rfl;have z2:=HX.out.c 2 rfl;have z3:=HX.out.c 3 rfl;have z4:=HX.out.c 4 rfl;have z5:=HX.out.c 5 rfl;have z6:=HX.out.c 6 rfl;have z7:=HX.out.c 7 rfl;rw [hK] at hW1 ⊢;clear hR hK hq2 hq1;go_enter Tryz.func240,Tryz.ntmps240;go_upto_region 1 with fail;rw [<-hW1,<-hg1];clear hW1 hg1;cases q1
  ·go_wp2_with fail;refine HN.out.mono ?_;rintro e w2 ⟨rfl,rfl⟩;go_wp2_with fail;go_ret;exact ⟨by rw [HR.out];rfl,HB.out⟩
  ·go_wp2_with fail;refine HN.out.mono ?_;rintro e w2 ⟨rfl,rfl⟩;go_wp2_with fail;refine HNO.out.mono ?_;rintro e w3 ⟨rfl,hb⟩;have HB3:=h_ (HB.out.trans (hb.mono HB.out.size));clear hb HN HNO HX;go_wp2_with fail;go_ret;exact ⟨by rw [HR.out];cases q2 <;> rfl,HB3.out⟩
 ·have hR:okA a=(isNm a.name&&a.val.right.isSome):=by
   unfold okA;rw [if_pos (by rw [hK];decide)]
  obtain ⟨q2,hq2⟩:∃q:Bool,a.val.right.isSome=q:=⟨_,rfl⟩
  rw [hq1,hq2] at hR;rw [hq2] at HRI;have HR:=h_ hR;rw [hK] at HX;have z0:=HX.out.c 0 rfl;have z1:=HX.out.c 1 rfl;have z2:=HX.out.c 2 rfl;have z3:=HX.out.c 3 rfl;have z4:=HX.out.c 4 rfl;have z5:=HX.out.c 5 rfl;have z6:=HX.out.c 6 rfl;have z7:=HX.out.c 7 rfl;rw [hK] at hW1 ⊢;clear hR hK hq2 hq1;go_enter Tryz.func240,Tryz.ntmps240;go_upto_region 1 with fail;rw [<-hW1,<-hg1];clear hW1 hg1;cases q1
  ·go_wp2_with fail;refine HN.out.mono ?_;rintro e w2 ⟨rfl,rfl⟩;go_wp2_with fail;go_ret;exact ⟨by rw [HR.out];rfl,HB.out⟩
  ·go_wp2_with fail;refine HN.out.mono ?_;rintro e w2 ⟨rfl,rfl⟩;go_wp2_with fail;refine HRI.out.mono ?_;rintro e w3 ⟨rfl,hb⟩;have HB3:=h_ (HB.out.trans (hb.mono HB.out.size));clear hb HN HRI HX;go_wp2_with fail;go_ret;exact ⟨by rw [HR.out];cases q2 <;> rfl,HB3.out⟩
 ·have hR:okA a=false:=by
   unfold okA;rw [if_neg (by omega),decide_eq_false (by omega)];simp
  have HR:=h_ hR
  have e1:(a.kind==1)=false:=by simp;omega
  have e2:(a.kind==2)=false:=by simp;omega
  have e3:(a.kind==3)=false:=by simp;omega
  have z0:=HX.out.c 0 rfl;clear hR k1 HN HRI HNO hq1;go_enter Tryz.func240,Tryz.ntmps240;go_upto_region 1 with fail;rw [<-hW1,<-hg1];clear hW1 hg1;go_wp2_with fail;go_ret;exact ⟨by rw [HR.out];rfl,HB.out⟩
theorem trig_any (w:World) (m:GM) (ev:EV) (X:ByteArray) (A1 A2:Option Addr) (c1 c2:Nat) (hX:txV m.event=.string X) (hr:m.rng) (hK0:KwAt w) :
  Calls Tryz.prog 243 #[.agg #[.int .i64 m.kind,.string X,.int .i64 m.wait,.bool m.guarded,.int .i64 ev.kind,.int .i64 ev.num,.string ev.name,.int .i64 ev.op,.slice ev.A ev.len ev.cap,.int .i64 ev.p,.slice A1 m.acts.length c1,.slice A2 m.targets.length c2,.int .i64 m.at_]] w λ e w'=>e=.returned (.bool (trig m))/\Below w.heap.size w w':=by
 obtain ⟨W1,hW1⟩:∃W,W=w.alloc (.cells #[.int .i64 m.kind,.string X,.int .i64 m.wait,.bool m.guarded,.int .i64 ev.kind,.int .i64 ev.num,.string ev.name,.int .i64 ev.op,.slice ev.A ev.len ev.cap,.int .i64 ev.p,.slice A1 m.acts.length c1,.slice A2 m.targets.length c2,.int .i64 m.at_] 57):=⟨_,rfl⟩
 obtain ⟨g1,hg1⟩:∃g,g=w.heap.size:=⟨_,rfl⟩
 have HB:Hid (Below w.heap.size w W1):=by rw [hW1];exact (b_ _ w).alloc (n_ _) _
 have HX:Hid (CB W1 g1 57 [.int .i64 m.kind,.string X,.int .i64 m.wait,.bool m.guarded,.int .i64 ev.kind,.int .i64 ev.num,.string ev.name,.int .i64 ev.op,.slice ev.A ev.len ev.cap,.int .i64 ev.p,.slice A1 m.acts.length c1,.slice A2 m.targets.length c2,.int .i64 m.at_]):=by rw [hW1,hg1];exact CB.new w _ [.int .i64 m.kind,.string X,.int .i64 m.wait,.bool m.guarded,.int .i64 ev.kind,.int .i64 ev.num,.string ev.name,.int .i64 ev.op,.slice ev.A ev.len ev.cap,.int .i64 ev.p,.slice A1 m.acts.length c1,.slice A2 m.targets.length c2,.int .i64 m.at_]
 have hS:X.size<=140737488351232:=by
  have h1:=hr.1;rw [<-toArr hX] at h1;exact h1
 have HN:=h_ (name_any X W1 hS (hK0.below HB.out));rw [toArr hX] at HN
 have hie:m.event.isEmpty=X.toList.isEmpty:=by rw [Lib.toList_data,toArr hX]
 clear hX hr hK0 hS
 by_cases k1:m.kind=1
 ·have hR:trig m=(isNm m.event&&(m.wait==0)):=by
   unfold trig;rw [if_pos k1,dec_beq]
  obtain ⟨q1,hq1⟩:∃q:Bool,isNm m.event=q:=⟨_,rfl⟩
  obtain ⟨q2,hq2⟩:∃q:Bool,(m.wait==0)=q:=⟨_,rfl⟩
  rw [hq1,hq2] at hR;rw [hq1] at HN;have HR:=h_ hR;rw [k1] at HX hW1 ⊢;have z0:=HX.out.c 0 rfl;have z1:=HX.out.c 1 rfl;have z2:=HX.out.c 2 rfl;clear hR k1 hie;go_enter Tryz.func243,Tryz.ntmps243;go_upto_region 1 with fail;rw [<-hW1,<-hg1];clear hW1 hg1;cases q1
  ·go_wp2_with fail;refine HN.out.mono ?_;rintro e w2 ⟨rfl,rfl⟩;go_wp2_with fail;go_ret;exact ⟨by rw [HR.out];rfl,HB.out⟩
  ·cases q2
   ·go_wp2_with fail;refine HN.out.mono ?_;rintro e w2 ⟨rfl,rfl⟩;go_wp2_with fail;go_ret;exact ⟨by rw [HR.out];rfl,HB.out⟩
   ·go_wp2_with fail;refine HN.out.mono ?_;rintro e w2 ⟨rfl,rfl⟩;go_wp2_with fail;go_ret;exact ⟨by rw [HR.out];rfl,HB.out⟩
 ·by_cases k2:m.kind=2
  ·have hR:trig m=(X.toList.isEmpty&&(m.wait==0)):=by
    unfold trig;rw [if_neg k1,if_pos k2,dec_beq,hie]
   obtain ⟨q1,hq1⟩:∃q:Bool,X.toList.isEmpty=q:=⟨_,rfl⟩
   obtain ⟨q2,hq2⟩:∃q:Bool,(m.wait==0)=q:=⟨_,rfl⟩
   rw [hq1,hq2] at hR;have HR:=h_ hR;rw [k2] at HX hW1 ⊢;have z0:=HX.out.c 0 rfl;have z1:=HX.out.c 1 rfl;have z2:=HX.out.c 2 rfl;clear hR k1 k2 hie HN;go_enter Tryz.func243,Tryz.ntmps243;go_upto_region 1 with fail;rw [<-hW1,<-hg1];clear hW1 hg1;cases q1
   ·go_wp2_with fail;go_ret;exact ⟨by rw [HR.out];rfl,HB.out⟩
   ·cases q2
    ·go_wp2_with fail;go_ret;exact ⟨by rw [HR.out];rfl,HB.out⟩
    ·go_wp2_with fail;go_ret;exact ⟨by rw [HR.out];rfl,HB.out⟩
  ·by_cases k3:m.kind=3
   ·have hR:trig m=(X.toList.isEmpty&&decide (0<=m.wait)):=by
     unfold trig;rw [if_neg k1,if_neg k2,decide_eq_true k3,hie,Bool.true_and]
    obtain ⟨q1,hq1⟩:∃q:Bool,X.toList.isEmpty=q:=⟨_,rfl⟩
    obtain ⟨q2,hq2⟩:∃q:Bool,decide (0<=m.wait)=q:=⟨_,rfl⟩
    rw [hq1,hq2] at hR;have HR:=h_ hR;rw [k3] at HX hW1 ⊢;have z0:=HX.out.c 0 rfl;have z1:=HX.out.c 1 rfl;have z2:=HX.out.c 2 rfl;clear hR k1 k2 k3 hie HN;go_enter Tryz.func243,Tryz.ntmps243;go_upto_region 1 with fail;rw [<-hW1,<-hg1];clear hW1 hg1;cases q1
    ·go_wp2_with fail;go_ret;exact ⟨by rw [HR.out];rfl,HB.out⟩
    ·cases q2
     ·go_wp2_with fail;go_ret;exact ⟨by rw [HR.out];rfl,HB.out⟩
     ·go_wp2_with fail;go_ret;exact ⟨by rw [HR.out];rfl,HB.out⟩
   ·have hR:trig m=false:=by
     unfold trig;rw [if_neg k1,if_neg k2,decide_eq_false k3];rfl
    have HR:=h_ hR
    have e1:(m.kind==1)=false:=by simpa using k1
    have e2:(m.kind==2)=false:=by simpa using k2
    have e3:(m.kind==3)=false:=by simpa using k3
    have z0:=HX.out.c 0 rfl;clear hR k1 k2 k3 hie HN;go_enter Tryz.func243,Tryz.ntmps243;go_upto_region 1 with fail;rw [<-hW1,<-hg1];clear hW1 hg1;go_wp2_with fail;go_ret;exact ⟨by rw [HR.out];rfl,HB.out⟩
theorem grd_any (w:World) (m:GM) (ev:EV) (X:ByteArray) (A1 A2:Option Addr) (c1 c2:Nat) (hg:GV w 0 w.heap.size m.guard ev) (hr:m.rng) (hE:Ee w) :
  Calls Tryz.prog 244 #[.agg #[.int .i64 m.kind,.string X,.int .i64 m.wait,.bool m.guarded,.int .i64 ev.kind,.int .i64 ev.num,.string ev.name,.int .i64 ev.op,.slice ev.A ev.len ev.cap,.int .i64 ev.p,.slice A1 m.acts.length c1,.slice A2 m.targets.length c2,.int .i64 m.at_]] w λ e w'=>e=.returned (.bool (grd m))/\Below w.heap.size w w':=by
 obtain ⟨W1,hW1⟩:∃W,W=w.alloc (.cells #[.int .i64 m.kind,.string X,.int .i64 m.wait,.bool m.guarded,.int .i64 ev.kind,.int .i64 ev.num,.string ev.name,.int .i64 ev.op,.slice ev.A ev.len ev.cap,.int .i64 ev.p,.slice A1 m.acts.length c1,.slice A2 m.targets.length c2,.int .i64 m.at_] 57):=⟨_,rfl⟩
 obtain ⟨g1,hg1⟩:∃g,g=w.heap.size:=⟨_,rfl⟩
 have HB:Hid (Below w.heap.size w W1):=by rw [hW1];exact (b_ _ w).alloc (n_ _) _
 have HX:Hid (CB W1 g1 57 [.int .i64 m.kind,.string X,.int .i64 m.wait,.bool m.guarded,.int .i64 ev.kind,.int .i64 ev.num,.string ev.name,.int .i64 ev.op,.slice ev.A ev.len ev.cap,.int .i64 ev.p,.slice A1 m.acts.length c1,.slice A2 m.targets.length c2,.int .i64 m.at_]):=by rw [hW1,hg1];exact CB.new w _ [.int .i64 m.kind,.string X,.int .i64 m.wait,.bool m.guarded,.int .i64 ev.kind,.int .i64 ev.num,.string ev.name,.int .i64 ev.op,.slice ev.A ev.len ev.cap,.int .i64 ev.p,.slice A1 m.acts.length c1,.slice A2 m.targets.length c2,.int .i64 m.at_]
 have hg1':GV W1 0 W1.heap.size m.guard ev:=(GV.below hg HB.out (n_ _)).mono (n_ 0) HB.out.size;have HRI:=h_ (eright_any W1 m.guard ev (hE.below HB.out).wv hr.2.2.1 hg1');simp only [EV.val] at HRI;have HNO:=h_ (nothing_any W1 m.guard ev hg1')
 have hR:grd m=if m.guarded=true then m.guard.right.isSome else nothing m.guard:=rfl
 obtain ⟨q1,hq1⟩:∃q:Bool,m.guard.right.isSome=q:=⟨_,rfl⟩
 obtain ⟨q2,hq2⟩:∃q:Bool,nothing m.guard=q:=⟨_,rfl⟩
 rw [hq1] at HRI;rw [hq2] at HNO;rw [hq1,hq2] at hR
 obtain ⟨d,hd⟩:∃d,m.guarded=d:=⟨_,rfl⟩
 rw [hd] at hR HX hW1 ⊢;clear hg1' hg hr hE hd hq1 hq2;cases d
 ·have HR:Hid (grd m=q2):=hR;have z3:=HX.out.c 3 rfl;have z4:=HX.out.c 4 rfl;have z5:=HX.out.c 5 rfl;have z6:=HX.out.c 6 rfl;have z7:=HX.out.c 7 rfl;have z8:=HX.out.c 8 rfl;have z9:=HX.out.c 9 rfl;clear hR;go_enter Tryz.func244,Tryz.ntmps244;go_upto_region 1 with fail;rw [<-hW1,<-hg1];clear hW1 hg1;go_wp2_with fail;refine HNO.out.mono ?_;rintro e w3 ⟨rfl,hb⟩;have HB3:=h_ (HB.out.trans (hb.mono HB.out.size));clear hb HRI HNO HX;go_wp2_with fail;go_ret;exact ⟨by rw [HR.out];rfl,HB3.out⟩
 ·have HR:Hid (grd m=q1):=hR;have z3:=HX.out.c 3 rfl;have z4:=HX.out.c 4 rfl;have z5:=HX.out.c 5 rfl;have z6:=HX.out.c 6 rfl;have z7:=HX.out.c 7 rfl;have z8:=HX.out.c 8 rfl;have z9:=HX.out.c 9 rfl;clear hR;go_enter Tryz.func244,Tryz.ntmps244;go_upto_region 1 with fail;rw [<-hW1,<-hg1];clear hW1 hg1;go_wp2_with fail;refine HRI.out.mono ?_;rintro e w3 ⟨rfl,hb⟩;have HB3:=h_ (HB.out.trans (hb.mono HB.out.size));clear hb HRI HNO HX;go_wp2_with fail;go_ret;exact ⟨by rw [HR.out];rfl,HB3.out⟩
theorem bodiless_any (w:World) (k p:Int) (N0 I0 D0:ByteArray) (A1 A2 A3 A4:Option Addr) (n1 n2 n3 n4 c1 c2 c3 c4:Nat) :
  Calls Tryz.prog 140 #[.agg #[.int .i64 k,.string N0,.string I0,.string D0,.slice A1 n1 c1,.slice A2 n2 c2,.slice A3 n3 c3,.slice A4 n4 c4,.int .i64 p]] w λ e w'=>e=.returned (.bool (I0.toList.isEmpty&&((n1:Int)==0)&&((n2:Int)==0)&&((n3:Int)==0)&&((n4:Int)==0)))/\Below w.heap.size w w':=by
 obtain ⟨W1,hW1⟩:∃W,W=w.alloc (.cells #[.int .i64 k,.string N0,.string I0,.string D0,.slice A1 n1 c1,.slice A2 n2 c2,.slice A3 n3 c3,.slice A4 n4 c4,.int .i64 p] 27):=⟨_,rfl⟩
 obtain ⟨g1,hg1⟩:∃g,g=w.heap.size:=⟨_,rfl⟩
 have HB:Hid (Below w.heap.size w W1):=by rw [hW1];exact (b_ _ w).alloc (n_ _) _
 have HX:Hid (CB W1 g1 27 [.int .i64 k,.string N0,.string I0,.string D0,.slice A1 n1 c1,.slice A2 n2 c2,.slice A3 n3 c3,.slice A4 n4 c4,.int .i64 p]):=by rw [hW1,hg1];exact CB.new w _ [.int .i64 k,.string N0,.string I0,.string D0,.slice A1 n1 c1,.slice A2 n2 c2,.slice A3 n3 c3,.slice A4 n4 c4,.int .i64 p]
 obtain ⟨q1,hq1⟩:∃q:Bool,(I0.toList.isEmpty)=q:=⟨_,rfl⟩
 obtain ⟨q2,hq2⟩:∃q:Bool,((n1:Int)==0)=q:=⟨_,rfl⟩
 obtain ⟨q3,hq3⟩:∃q:Bool,((n2:Int)==0)=q:=⟨_,rfl⟩
 obtain ⟨q4,hq4⟩:∃q:Bool,((n3:Int)==0)=q:=⟨_,rfl⟩
 obtain ⟨q5,hq5⟩:∃q:Bool,((n4:Int)==0)=q:=⟨_,rfl⟩
 rw [hq1,hq2,hq3,hq4,hq5]
 have HR:Hid (True/\true=true):=⟨trivial,rfl⟩
 have z2:=HX.out.c 2 rfl;have z4:=HX.out.c 4 rfl;have z5:=HX.out.c 5 rfl;have z6:=HX.out.c 6 rfl;have z7:=HX.out.c 7 rfl;go_enter Tryz.func140,Tryz.ntmps140;go_upto_region 1 with fail;rw [<-hW1,<-hg1];clear hW1 hg1;cases q1
 ·go_wp2_with fail;go_ret;exact ⟨rfl,HB.out⟩
 ·cases q2
  ·go_wp2_with fail;go_ret;exact ⟨rfl,HB.out⟩
  ·cases q3
   ·go_wp2_with fail;go_ret;exact ⟨rfl,HB.out⟩
   ·cases q4
    ·go_wp2_with fail;go_ret;exact ⟨rfl,HB.out⟩
    ·cases q5
     ·go_wp2_with fail;go_ret;exact ⟨rfl,HB.out⟩
     ·go_wp2_with fail;go_ret;exact ⟨rfl,HB.out⟩
theorem count8_any (w:World) (b i:Nat) (x more most:Int) (hc:w.cell? ⟨b,i,none⟩=some (.int .i64 x)) (hf:w.frozen? ⟨b,i,none⟩=false) (h0:-9223372036854775808<=x+more) (h1:x+more<=9223372036854775807) :
  Calls Tryz.prog 138 #[.pointer (some ⟨b,i,none⟩),.int .i64 more,.int .i64 most] w λ e w'=>e=.returned (.bool (decide (x+more<=most)))/\w'=w.setCell ⟨b,i,none⟩ (.int .i64 (x+more)):=by
 obtain ⟨y,hy⟩:∃y,x+more=y:=⟨_,rfl⟩
 have HW:=h_ (Go.IntWalk.wrap64_in (x+more) ⟨h0,h1⟩);rw [hy] at HW ⊢
 obtain ⟨W1,hW1⟩:∃W,W=w.setCell ⟨b,i,none⟩ (.int .i64 y):=⟨_,rfl⟩
 have c1:W1.cell? ⟨b,i,none⟩=some (.int .i64 y):=by
  rw [hW1];exact World.cell?_setCell_same _ _ _ (by rw [hc])
 rw [<-hW1]
 obtain ⟨q,hq⟩:∃q:Bool,decide (y<=most)=q:=⟨_,rfl⟩
 rw [hq];clear h0 h1;go_enter Tryz.func138,Tryz.ntmps138;go_upto_region 2 with fail
 try rw [hy]
 try rw [HW.out]
 rw [<-hW1];clear hW1 hc hf hy;cases q
 ·go_wp2_with fail;go_ret;exact ⟨rfl,rfl⟩
 ·go_wp2_with fail;go_ret;exact ⟨rfl,rfl⟩
end Go.Proofs.YtocecpghoncmgaaGreatDoor
