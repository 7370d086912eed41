import Derived.Test.YtocecpghoncmgaaGreatDoorQh
import Derived.Test.YtocecpghoncmgaaGreatDoorQVaX
import Derived.Test.YtocecpghoncmgaaGreatDoorQEB
set_option maxHeartbeats 12800000
set_option maxRecDepth 20000
namespace Go.Proofs.YtocecpghoncmgaaGreatDoor
open Go.RowKit
section
variable {P:Program} {ops:Array Oper} {Q:Exit->Act->World->Prop}
theorem region_free3 (base:Act) (id:Nat) (w0:World) (hm:P.follows .mixedOrders=true) (last:Nat) (hlast:ops.size=last+1) (hB:freeB ops=true) (hc:coverB ops last=true) (D:Nat->List Nat) (hD:depsB ops D=true) (hin:inB ops base.tmps.size=true)
  (F:Nat->Value->Prop) (G:(Nat->Option Value)->World->Prop) (Fin:(Nat->Option Value)->World->Prop)
  (h0:G (λ _=>none) w0.drew)
  (hstep:∀i o,i<last->ops[i]?=some o->∀(a:Act) (vals:Nat->Option Value) (w:World),G vals w->(∀k,outB ops k=true->a.eval (.tmp k)=base.eval (.tmp k))->(∀j∈D i,F j (a.eval (.tmp (slotOf ops j)))/\vals j=some (a.eval (.tmp (slotOf ops j))))->vals i=none->(∀j k,vals j≠none->k∈D j->j<ops.size->vals k≠none)->(∀j v,vals j=some v->F j v) ->
   o.wp P a w (λ a' w'=>∃v,a'=a.put o.dst v/\F i v/\G (updV vals i v) w') Q)
  (hfin:∀o,ops[last]?=some o->∀(a:Act) (vals:Nat->Option Value) (w:World),G vals w->(∀k,outB ops k=true->a.eval (.tmp k)=base.eval (.tmp k))->(∀j∈D last,F j (a.eval (.tmp (slotOf ops j)))/\vals j=some (a.eval (.tmp (slotOf ops j))))->(∀j,j<last->vals j≠none)->(∀j v,vals j=some v->F j v) ->
   o.wp P a w (λ a' w'=>∃v,a'=a.put o.dst v/\∀vals':Nat->Option Value,(∀j,j<last->vals' j=vals j)->Fin vals' w') Q)
  (hdone:∀vals w,Fin vals w->(∀i,i<last+1->(vals i).isSome=true)->Q .normal (puts ops vals (List.range (last+1)) base) w) :
  (Code.region id ops true).wp P Q base w0:=by
 have hout:∀(vals:Nat->Option Value) (k:Nat),outB ops k=true->(puts ops vals (List.range ops.size) base).eval (.tmp k)=base.eval (.tmp k):=λ vals k hk=>by
  show (puts ops vals (List.range ops.size) base).tmps.getD k undef=base.tmps.getD k undef
  rw [Array.getD_eq_getD_getElem?,Array.getD_eq_getD_getElem?,puts_other vals k _ _ (λ j _ o ho e=>by
   unfold outB at hk;have:=(Array.all_eq_true_iff_forall_mem.1 hk) o (Array.mem_of_getElem? ho);rw [e] at this
   simp at this)]
 have hget:∀(vals:Nat->Option Value) (i:Nat) (o:Oper),ops[i]?=some o->(∀e∈o.after,Region.binds .any e=true->(vals e.on).isSome=true)->∀j∈D i,j<i/\vals j=some ((puts ops vals (List.range ops.size) base).eval (.tmp (slotOf ops j))):=λ vals i o ho hdep j hj=>by
  have hlt:=(Array.getElem?_eq_some_iff.1 ho).1;unfold depsB at hD;have h1:=List.all_eq_true.1 hD i (List.mem_range.2 hlt);rw [ho] at h1;have h2:=List.all_eq_true.1 h1 j hj;simp only [Bool.and_eq_true,decide_eq_true_eq] at h2;obtain ⟨⟨h3,h4⟩,h5⟩:=h2;rw [<-Array.any_toList] at h4;obtain ⟨e,he0,h6⟩:=List.any_eq_true.1 h4;have he:e∈o.after:=Array.mem_toList_iff.1 he0;rw [Bool.and_eq_true,beq_iff_eq] at h6;have h7:=hdep e he h6.2;rw [h6.1] at h7;obtain ⟨v,hv⟩:=x_ h7;refine ⟨h3,?_⟩
  cases hp:ops[j]? with
  |none=>rw [hp] at h5;cases h5
  |some p =>
   rw [hp] at h5;obtain ⟨d,hd⟩:=x_ h5
   have hs:slotOf ops j=d:=by unfold slotOf;rw [hp];show (p.dst).getD 0=d;rw [hd];rfl
   have hdi:d<base.tmps.size:=by
    unfold inB at hin;have:=(Array.all_eq_true_iff_forall_mem.1 hin) p (Array.mem_of_getElem? hp);rw [hd] at this;simpa using this
   rw [hs,hv];show some v=some ((puts ops vals (List.range ops.size) base).tmps.getD d undef);rw [Array.getD_eq_getD_getElem?,puts_at hp hd hv (List.range ops.size) base List.nodup_range (List.mem_range.2 (by omega)) hdi (λ k hk hne q hq=>freeB_dst hB hp hq hne)];rfl
 have hclD:∀(vals:Nat->Option Value),(∀j p,vals j≠none->ops[j]?=some p->∀e∈p.after,Region.binds .any e=true->(vals e.on).isSome=true)->∀j k,vals j≠none->k∈D j->j<ops.size->vals k≠none:=λ vals hc j k hj hk hlt=>by
  have ho:=Array.getElem?_eq_getElem hlt;have h:=(hget vals j _ ho (λ e he hb=>hc j _ hj ho e he hb) k hk).2;rw [h];simp
 refine wp_region_any hm ?_
 have hb0:base=puts ops (λ _=>none) (List.range ops.size) base:=by
  have:∀(L:List Nat) (a:Act),puts ops (λ _=>none) L a=a:=λ L=>by
   induction L with
   |nil=>intro a;rfl
   |cons j L ih=>intro a;exact ih a
  rw [this]
 have main:=wpAny_free (P:=P) (Q:=Q) base hB
  (λ vals w=>(vals last=none->G vals w/\∀j v,vals j=some v->F j v)/\(vals last≠none->Fin vals w/\∀j,j<last+1->(vals j).isSome=true)/\(∀j p,vals j≠none->ops[j]?=some p->∀e∈p.after,Region.binds .any e=true->(vals e.on).isSome=true))
  (λ vals w i o hI ho hv hdep=>?_) (λ vals w hI hall=>?_) ops.size (Array.replicate ops.size false) (λ _=>none) w0.drew (List.range ops.size) (by simp) (λ i hi=>?_) (by simp) (λ i hi _=>List.mem_range.2 hi) ⟨λ _=>⟨h0,λ j v h=>by cases h⟩,λ h=>absurd rfl h,λ j p h=>absurd rfl h⟩
 ·rw [<-hb0] at main;exact main
 ·have hlt:=(Array.getElem?_eq_some_iff.1 ho).1
  have hln:vals last=none:=by
   cases hl:vals last with
   |none=>rfl
   |some v =>
    have:=(hI.2.1 (by rw [hl];simp)).2 i (by omega);rw [hv] at this;cases this
  obtain ⟨hG,hF⟩:=hI.1 hln;have hg2:=hget vals i o ho hdep
  have hcl:∀v,∀j p,updV vals i v j≠none->ops[j]?=some p->∀e∈p.after,Region.binds .any e=true->(updV vals i v e.on).isSome=true:=λ v j p hj hp e he hb=>by
   by_cases c:e.on=i
   ·rw [c,updV_same];rfl
   ·rw [updV_ne vals v c]
    by_cases d:j=i
    ·subst d;rw [ho] at hp;injection hp with hp;subst hp;exact hdep e he hb
    ·rw [updV_ne vals v d] at hj;exact hI.2.2 j p hj hp e he hb
  by_cases c:i=last
  ·subst c
   have hcov:∀j,j<i->(vals j).isSome=true:=cover_all hc (p:=λ j=>(vals j).isSome=true) (λ k q hk hq hkk e he hb=>by
    rcases hkk with rfl|hkk
    ·rw [ho] at hq;injection hq with hq;subst hq;exact hdep e he hb
    ·exact hI.2.2 k q (λ hn=>by rw [hn] at hkk;cases hkk) hq e he hb)
   refine Oper.wp_mono (λ a' w' hh=>?_) (hfin o ho _ vals w hG (hout vals) (λ j hj=>⟨hF j _ (hg2 j hj).2,(hg2 j hj).2⟩) (λ j hj hn=>by have:=hcov j hj;rw [hn] at this;cases this) hF);obtain ⟨v,rfl,hf⟩:=hh;refine ⟨v,rfl,λ h=>?_,λ _=>⟨hf _ (λ j hj=>updV_ne vals v (by omega)),λ j hj=>?_⟩,hcl v⟩
   ·rw [updV_same] at h;cases h
   ·by_cases d:j=i
    ·rw [d,updV_same];rfl
    ·rw [updV_ne vals v d];exact hcov j (by omega)
  ·refine Oper.wp_mono (λ a' w' hh=>?_) (hstep i o (by omega) ho _ vals w hG (hout vals) (λ j hj=>⟨hF j _ (hg2 j hj).2,(hg2 j hj).2⟩) hv (hclD vals hI.2.2) hF);obtain ⟨v,rfl,hf,hG'⟩:=hh
   have hl':updV vals i v last=none:=by rw [updV_ne vals v (λ e=>c e.symm)];exact hln
   refine ⟨v,rfl,λ _=>⟨hG',λ j u hu=>?_⟩,λ h=>absurd hl' h,hcl v⟩
   by_cases d:j=i
   ·subst d;rw [updV_same] at hu;injection hu with hu;rw [<-hu];exact hf
   ·rw [updV_ne vals v d] at hu;exact hF j u hu
 ·have hls:vals last≠none:=λ h=>by
   have:=hall last (by omega);rw [h] at this;cases this
  obtain ⟨h1,h2⟩:=hI.2.1 hls;rw [hlast];exact hdone vals w h1 h2
 ·rw [Array.getD_eq_getD_getElem?,Array.getElem?_replicate,if_pos hi];rfl
end
section
variable {P:Program} {ops:Array Oper} {Q:Exit->Act->World->Prop}
def chainB (rk:Nat->Option Nat) (D:Nat->List Nat) (last:Nat):Bool :=
 ((List.range (last+1)).all λ i=>match rk i with
  |some (r+1)=>if i=last then (List.range last).any λ j=>rk j==some r else (D i).any λ j=>rk j==some r || (D j).any λ k=>rk k==some r
  |_=>true) &&
 (List.range (last+1)).all λ i=>(List.range (last+1)).all λ j=>i==j || (rk i).isNone || rk i != rk j
def OpEnd (a:Act) (d:Option Tmp) (R:Value->World->Prop) (a':Act) (w':World):Prop:=∃v,a'=a.put d v/\R v w'
theorem region_mix (base:Act) (id:Nat) (w0:World) (hm:P.follows .mixedOrders=true) (last:Nat) (hlast:ops.size=last+1) (hB:freeB ops=true) (hc:coverB ops last=true) (D:Nat->List Nat) (hD:depsB ops D=true) (hin:inB ops base.tmps.size=true)
  (rk:Nat->Option Nat) (al:Nat->Bool) (N:Nat) (hN:rk last=some N) (hch:chainB rk D last=true)
  (F:Nat->(Nat->Option Value)->Value->Prop) (hFm:∀j vals vals' v,(∀k,vals k≠none->vals' k=vals k)->F j vals v->F j vals' v) (Inv:Nat->(Nat->Option Value)->World->Prop) (Fin:(Nat->Option Value)->World->Prop)
  (hloc:∀p vals vals' w,(∀j,(rk j).isSome=true∨al j=true->vals' j=vals j)->Inv p vals w->Inv p vals' w)
  (h0:Inv 0 (λ _=>none) w0.drew)
  (hpure:∀i o,i<last->rk i=none->al i=false->ops[i]?=some o->∀(a:Act) (vals:Nat->Option Value) (w:World) (p:Nat),p<=N->Inv p vals w->(∀k,outB ops k=true->a.eval (.tmp k)=base.eval (.tmp k))->(∀j∈D i,F j vals (a.eval (.tmp (slotOf ops j)))/\vals j=some (a.eval (.tmp (slotOf ops j)))) ->
   o.wp P a w (OpEnd a o.dst λ v w'=>F i vals v/\w'=w) Q)
  (halloc:∀i o,i<last->rk i=none->al i=true->ops[i]?=some o->∀(a:Act) (vals:Nat->Option Value) (w:World) (p:Nat),p<=N->Inv p vals w->vals i=none->(∀j k,vals j≠none->k∈D j->j<ops.size->vals k≠none) ->
   o.wp P a w (OpEnd a o.dst λ v w'=>F i vals v/\Inv p (updV vals i v) w') Q)
  (himp:∀i o r,i<last->rk i=some r->ops[i]?=some o->∀(a:Act) (vals:Nat->Option Value) (w:World),Inv r vals w->(∀k,outB ops k=true->a.eval (.tmp k)=base.eval (.tmp k))->(∀j∈D i,F j vals (a.eval (.tmp (slotOf ops j)))/\vals j=some (a.eval (.tmp (slotOf ops j))))->vals i=none->(∀j k,vals j≠none->k∈D j->j<ops.size->vals k≠none) ->
   o.wp P a w (OpEnd a o.dst λ v w'=>F i vals v/\Inv (r+1) (updV vals i v) w') Q)
  (hfin:∀o,ops[last]?=some o->∀(a:Act) (vals:Nat->Option Value) (w:World),Inv N vals w->(∀k,outB ops k=true->a.eval (.tmp k)=base.eval (.tmp k))->(∀j∈D last,F j vals (a.eval (.tmp (slotOf ops j)))/\vals j=some (a.eval (.tmp (slotOf ops j))))->(∀j,j<last->vals j≠none)->(∀j v,vals j=some v->F j vals v) ->
   o.wp P a w (OpEnd a o.dst λ _ w'=>∀vals':Nat->Option Value,(∀j,j<last->vals' j=vals j)->Fin vals' w') Q)
  (hdone:∀vals w,Fin vals w->(∀i,i<last+1->(vals i).isSome=true)->Q .normal (puts ops vals (List.range (last+1)) base) w) :
  (Code.region id ops true).wp P Q base w0:=by
 unfold chainB at hch;rw [Bool.and_eq_true] at hch
 have hc1:∀i r,i<last->rk i=some (r+1)->∃j∈D i,rk j=some r∨∃k∈D j,rk k=some r:=λ i r hi he=>by
  have:=List.all_eq_true.1 hch.1 i (List.mem_range.2 (by omega));rw [he] at this;simp only at this;rw [if_neg (by omega)] at this;obtain ⟨j,hj,h⟩:=List.any_eq_true.1 this;rw [Bool.or_eq_true] at h;rcases h with h|h
  ·exact ⟨j,hj,.inl (eq_of_beq h)⟩
  ·obtain ⟨k,hk,h⟩:=List.any_eq_true.1 h;exact ⟨j,hj,.inr ⟨k,hk,eq_of_beq h⟩⟩
 have hc3:∀r,rk last=some (r+1)->∃j,j<last/\rk j=some r:=λ r he=>by
  have:=List.all_eq_true.1 hch.1 last (List.mem_range.2 (by omega));rw [he] at this;simp only at this;rw [if_pos trivial] at this;obtain ⟨j,hj,h⟩:=List.any_eq_true.1 this;exact ⟨j,List.mem_range.1 hj,eq_of_beq h⟩
 have hc2:∀i j r,i<=last->j<=last->rk i=some r->rk j=some r->i=j:=λ i j r hi hj h1 h2=>by
  have:=List.all_eq_true.1 (List.all_eq_true.1 hch.2 i (List.mem_range.2 (by omega))) j (List.mem_range.2 (by omega));rw [h1,h2] at this;simp at this;exact this
 refine region_free3 base id w0 hm last hlast hB hc D hD hin (λ _ _=>True)
  (λ vals w=>∃p,p<=N/\(∀i r,i<=last->rk i=some r->((vals i).isSome=true ↔ r<p))/\(∀i,last<i->vals i=none)/\(∀j v,vals j=some v->F j vals v)/\Inv p vals w) Fin ⟨0,Nat.zero_le _,λ i r _ _=>by simp,λ _ _=>rfl,λ _ _ h=>(by cases h),h0⟩ ?_ ?_ hdone
 ·intro i o hi ho a vals w hG hbase hdep0 hv hcl _;obtain ⟨p,hpN,hp,hout,hF,hI⟩:=hG
  have hdep:∀j∈D i,F j vals (a.eval (.tmp (slotOf ops j)))/\vals j=some (a.eval (.tmp (slotOf ops j))):=λ j hj=>⟨hF j _ (hdep0 j hj).2,(hdep0 j hj).2⟩
  have hFv:∀v,F i vals v->∀j u,updV vals i v j=some u->F j (updV vals i v) u:=λ v hf j u hu=>by
   have hext:∀k,vals k≠none->updV vals i v k=vals k:=λ k hk=>updV_ne vals v (λ e=>hk (by rw [e];exact hv))
   by_cases c:j=i
   ·subst c;rw [updV_same] at hu;injection hu with hu;subst hu;exact hFm _ _ _ _ hext hf
   ·rw [updV_ne vals v c] at hu;exact hFm _ _ _ _ hext (hF j u hu)
  have hout':∀v j,last<j->updV vals i v j=none:=λ v j hj=>by rw [updV_ne vals v (by omega)];exact hout j hj
  cases hr:rk i with
  |none =>
   have hp':∀v j r,j<=last->rk j=some r->((updV vals i v j).isSome=true ↔ r<p):=λ v j r hj hjr=>by
    rw [updV_ne vals v (λ e=>by rw [e,hr] at hjr;cases hjr)];exact hp j r hj hjr
   cases ha:al i with
   |false =>
    refine Oper.wp_mono (λ a' w' hh=>?_) (hpure i o hi hr ha ho a vals w p hpN hI hbase hdep);obtain ⟨v,rfl,hf,rfl⟩:=hh;refine ⟨v,rfl,trivial,p,hpN,hp' v,hout' v,hFv v hf,hloc p vals _ _ (λ j hj=>updV_ne vals v (λ e=>?_)) hI⟩;rw [e,hr,ha] at hj;simp at hj
   |true =>
    refine Oper.wp_mono (λ a' w' hh=>?_) (halloc i o hi hr ha ho a vals w p hpN hI hv hcl);obtain ⟨v,rfl,hf,hI'⟩:=hh;exact ⟨v,rfl,trivial,p,hpN,hp' v,hout' v,hFv v hf,hI'⟩
  |some r =>
   have hle:¬r<p:=λ h=>by
    have:=(hp i r (by omega) hr).2 h;rw [hv] at this;cases this
   have hge:r<=p:=by
    match r,hr with
    |0,_=>exact Nat.zero_le _
    |r+1,hr =>
     obtain ⟨j,hj,hjr⟩:=hc1 i r hi hr
     have hle:∀k,vals k≠none->k<=last:=λ k hk=>by
      rcases Nat.lt_or_ge last k with h|h
      ·exact absurd (hout k h) hk
      ·exact h
     have h1:vals j≠none:=by rw [(hdep j hj).2];simp
     rcases hjr with hjr|⟨k,hk,hkr⟩
     ·have:=(hp j r (hle j h1) hjr).1 (Option.isSome_iff_ne_none.2 h1);omega
     ·have h2:=hcl j k h1 hk (by have:=hle j h1;omega);have:=(hp k r (hle k h2) hkr).1 (Option.isSome_iff_ne_none.2 h2);omega
   obtain rfl:p=r:=by omega
   refine Oper.wp_mono (λ a' w' hh=>?_) (himp i o p hi hr ho a vals w hI hbase hdep hv hcl);obtain ⟨v,rfl,hf,hI'⟩:=hh;refine ⟨v,rfl,trivial,p+1,?_,λ j r' hj hjr=>?_,hout' v,hFv v hf,hI'⟩
   ·rcases Nat.lt_or_ge p N with h|h
    ·exact h
    ·exact absurd (hc2 i last p (by omega) (n_ _) hr (by rw [hN];congr 1;omega)) (by omega)
   ·by_cases c:j=i
    ·subst c;rw [hr] at hjr;injection hjr with hjr;rw [updV_same];simp only [Option.isSome_some,true_iff];omega
    ·rw [updV_ne vals v c,hp j r' hj hjr];have:r'≠p:=λ e=>c (hc2 j i p hj (by omega) (by rw [hjr,e]) hr);omega
 ·intro o ho a vals w hG hbase hdep0 hall _;obtain ⟨p,hpN,hp,hout,hF,hI⟩:=hG
  have hdep:∀j∈D last,F j vals (a.eval (.tmp (slotOf ops j)))/\vals j=some (a.eval (.tmp (slotOf ops j))):=λ j hj=>⟨hF j _ (hdep0 j hj).2,(hdep0 j hj).2⟩
  have hge:N<=p:=by
   match N,hN with
   |0,_=>exact Nat.zero_le _
   |r+1,hN =>
    obtain ⟨j,hj,hjr⟩:=hc3 r hN;have:=(hp j r (by omega) hjr).1 (Option.isSome_iff_ne_none.2 (hall j hj));omega
  obtain rfl:p=N:=by omega
  exact hfin o ho a vals w hI hbase hdep hall hF
end
def PX (o:Bool) (w:World) (lo hi n:Nat) (xs:List Tk) (v:EV) (q:Nat):PR->Prop
 |.out=>False
 |.ok x r=>(match o with|true=>GW w lo hi x.gx v|false=>GV w lo hi x.gx v)/\TkEnds r/\q<n/\xs.drop q=r
 |.bad code _=>code≠0/\v=ev0/\q=0
theorem PX.same {o:Bool} {w w':World} {lo hi n:Nat} {xs:List Tk} {v:EV} {q:Nat} {e:PR} (h:PX o w lo hi n xs v q e) (hs:∀g,lo<=g->g<hi->w'.heap[g]?=w.heap[g]?):PX o w' lo hi n xs v q e:=by
 cases e with
 |out=>exact h
 |bad c p=>exact h
 |ok x r =>
  refine ⟨?_,h.2⟩;have h1:=h.1
  cases o with
  |true=>exact GW.same hs h1
  |false=>exact GV.same hs h1
def pv (g:Nat):Value:=.pointer (some ⟨g,0,none⟩)
theorem pv_inj {g g':Nat} (h:some (pv g)=some (pv g')):g=g':=by
 injection h with h;unfold pv at h;injection h with h;injection h with h;injection h with h
def tupX (v:EV) (q:Nat) (E:PR):Value:=.tuple #[v.val,.int .i64 (q:Int),ftP E]
theorem tup_inj {v v':EV} {q q':Nat} {E:PR} (h:some (tupX v q E)=some (tupX v' q' E)):v=v'/\q=q':=by
 injection h with hc;unfold tupX at hc;injection hc with hc;have h0:=congrArg (λ a:Array Value=>a[0]?) hc;have h1:=congrArg (λ a:Array Value=>a[1]?) hc;simp [EV.val] at h0 h1;obtain ⟨e1,e2,e3,e4,⟨e5,e6,e7⟩,e8⟩:=h0;cases v;cases v';simp only at e1 e2 e3 e4 e5 e6 e7 e8;subst e1 e2 e3 e4 e5 e6 e7 e8;exact ⟨rfl,by omega⟩
structure XIv (o:Bool) (w0:World) (n:Nat) (xs:List Tk) (E:PR) (ic a1 a2:Nat) (p:Nat) (vals:Nat->Option Value) (w:World):Prop where
 b:Below w0.heap.size w0 w
 c:1<=p->∃v q lo hi,vals ic=some (tupX v q E)/\w0.heap.size<=lo/\lo<=hi/\hi<=w.heap.size/\PX o w lo hi n xs v q E/\(∀g,vals a1=some (pv g)->g<lo∨hi<=g)/\(∀g,vals a2=some (pv g)->g<lo∨hi<=g)/\(2<=p->∃g,vals a1=some (pv g)/\XpB w g v)
 fa:∀{u},vals a1=some u->∃g,u=pv g/\w0.heap.size<=g/\(p<=1->XpB w g ev0)
 fb:∀{u},vals a2=some u->∃g,u=pv g/\w0.heap.size<=g/\FtB w g (.int .i64 0) (.int .i64 0)
 ne:∀g g',vals a1=some (pv g)->vals a2=some (pv g')->g≠g'
section
variable {o:Bool} {w0 w w':World} {n:Nat} {xs:List Tk} {E:PR} {ic a1 a2 p:Nat} {vals:Nat->Option Value}
theorem XIv.zero (w0:World):XIv o w0 n xs E ic a1 a2 0 (λ _=>none) w0.drew :=
 ⟨(b_ _ w0).drew,λ h=>absurd h (by omega),λ h=>(by cases h),λ h=>(by cases h),λ _ _ h=>(by cases h)⟩
end
def XFin (o:Bool) (w0:World) (n:Nat) (xs:List Tk) (E:PR) (wr:World) (v:EV) (q g1 g2:Nat):Prop :=
 XpB wr g1 v/\FtB wr g2 (.int .i64 E.code) (.int .i64 E.pt)/\g1≠g2/\w0.heap.size<=g1/\w0.heap.size<=g2/\Below w0.heap.size w0 wr/\∃lo hi,w0.heap.size<=lo/\lo<=hi/\hi<=wr.heap.size/\PX o wr lo hi n xs v q E/\(g1<lo∨hi<=g1)/\(g2<lo∨hi<=g2)
theorem XIv.fin {o:Bool} {w0 w:World} {n:Nat} {xs:List Tk} {E:PR} {ic a1 a2:Nat} {vals:Nat->Option Value} (h:XIv o w0 n xs E ic a1 a2 2 vals w) {g2:Nat} (hg2:vals a2=some (pv g2)) {v:EV} {q:Nat} (hv:vals ic=some (tupX v q E)) :
  ∃g1,vals a1=some (pv g1)/\XFin o w0 n xs E (two w g2 E.code E.pt) v q g1 g2:=by
 obtain ⟨v',q',lo,hi,c1,c2,c3,c4,c5,c6,c7,c8⟩:=h.c (by omega);obtain ⟨g1,hg1,hx⟩:=c8 (n_ _);rw [hv] at c1;obtain ⟨rfl,rfl⟩:=tup_inj c1;obtain ⟨k1,e1,b1,_⟩:=h.fa hg1;obtain rfl:=pv_inj (congrArg some e1);obtain ⟨k2,e2,b2,f2⟩:=h.fb hg2;obtain rfl:=pv_inj (congrArg some e2);have hne:=h.ne g1 g2 hg1 hg2;have hm:=two_mv w g2 E.code E.pt;refine ⟨g1,hg1,hx.mv hm hne,f2.two _ _,hne,b1,b2,below_two h.b b2 _ _,lo,hi,c2,c3,by rw [two_sz];exact c4,c5.same (λ k k1 k2=>hm.block (by omega) (λ e=>by have:=c7 g2 hg2;omega)),c6 g1 hg1,c7 g2 hg2⟩
theorem ev_get2 {a:Act} {k:Nat} {v:Value} (h:a.eval (.tmp k)=v):a.tmps[k]?.getD undef=v:=by
 rw [<-h];show _=a.tmps.getD k undef;rw [Array.getD_eq_getD_getElem?]
def gxO:Option Ex->GX
 |none=>.mk 0 0 [] 0 [] 0
 |some x=>x.gx
def dvEx (o:Bool) (y:Option Ex):List DV:=[.v (.int .i64 (gxO y).kind),.v (.int .i64 (gxO y).num),.v (txV (gxO y).name),.v (.int .i64 (gxO y).op),.sub o (gxO y).subs,.v (.int .i64 (gxO y).p)]
theorem Rep.ex {w:World} {base lo hi:Nat} {y:Option Ex} {v:EV} (h:GW w lo hi (gxO y) v) (hb:base<=lo) (h1:lo<=hi) (h2:hi<=w.heap.size):Rep w base (dvEx true y) v.cells:=by
 unfold dvEx
 obtain ⟨gx,hgx⟩:∃gx,gxO y=gx:=⟨_,rfl⟩
 rw [hgx] at h ⊢;obtain ⟨k,n,s,o,l,p⟩:=gx;unfold GW at h;obtain ⟨⟨a1,a2,a3,a4,a5,a6,a7,a8⟩,h3⟩:=h;refine ⟨List.range' lo (hi-lo),?_,List.nodup_range',λ g hg=>by have:=mem_range' hg;omega⟩
 have e3:txV s=.string v.name:=by rw [<-a3];exact txV_data v.name
 show DvsAt w [.v (.int .i64 k),.v (.int .i64 n),.v (txV s),.v (.int .i64 o),.sub true l,.v (.int .i64 p)] _ _;rw [e3,<-a1,<-a2,<-a4,<-a5];refine DvsAt.v rfl (DvsAt.v rfl (DvsAt.v rfl (DvsAt.v rfl ?_)))
 have hn:List.range' lo (hi-lo)=List.range' lo (hi-lo)++[]:=by simp
 rw [hn];refine DvsAt.cons ?_ (DvsAt.v rfl (DvsAt.nil w));unfold DvAt;exact ⟨lo,hi,⟨v.A,v.cap,by rw [a6],by omega,a8,h1,h2,h3⟩,rfl⟩
theorem GW.none (w:World) (lo hi:Nat):GW w lo hi (gxO none) ev0:=GW.leaf w lo hi 0 0 0 0 ⟨#[]⟩
theorem sets_mv (w:World) (g i:Nat) (l:List Value):Mv g w (sets w g i l):=(Ch.many (S:=λ k=>k=g) (.inl rfl) l i (Ch.refl _ w)).mv (λ _ _ h=>h)
theorem sets_put {b:Nat} {u w:World} (h:Mv b u w) {g:Nat} (hg:u.heap.size<=g) (i:Nat) (l:List Value):Mv b u (sets w g i l):=(Ch.many (S:=λ k=>k=b) (.inr hg) l i (Ch.of_mv h)).mv (λ _ _ h=>h)
theorem sets_below {u w:World} (h:Below u.heap.size u w) {g:Nat} (hg:u.heap.size<=g) (i:Nat) (l:List Value):Below u.heap.size u (sets w g i l):=(Ch.many (S:=λ _=>False) (.inr hg) l i (Ch.of_below h)).below (λ _ _ h=>h)
theorem PS.sets {w:World} {b:Nat} {K:Kx} {V D:Int} {m:Rs Unit} (h:PS w b K V D m) {g:Nat} (hg:b<g) (i:Nat) (l:List Value):PS (sets w g i l) b K V D m:=h.ch (Ch.of_mv (sets_mv w g i l)) (λ k e=>by have e':k=g:=e;omega)
theorem run_append_dv {P:Program} {w:World} (t ty e:TypeId) (i:TypeInfo) (z:Value) (k bytes:Nat) (h1:P.underlying t=some (.slice e)) (h2:P.info? e=some i) (h3:i.zero=some z) (h4:i.size=k) (h5:i.bytes=bytes) (h6:z.cells.size=k) (hk:0<k)
  {v:Value} {n:Nat} {cs:List DV} {F:List Nat} (hv:DvAt w (.row e k n cs) v F) (hF:F.Nodup) {g:Nat} {T:TypeId} {ys:List Value} (hg:CB w g T ys) {ds:List DV} {F2:List Nat} (hd:DvsAt w ds ys F2) (hl:ys.length=k) (hF2:F2.Nodup) (hdis:∀a∈F,a∉F2) (hn:n<=1000000) (hb:bytes<=10000) :
  ∃v' w' F',(Builtin.append_ #[t,t] ty #[v,.slice (some ⟨g,0,none⟩) 1 1]).run P w=.ok v' w'/\DvAt w' (.row e k (n+1) (cs++ds)) v' F'/\F'.Nodup/\(∀j∈F',j∈F∨j∈F2∨w.heap.size<=j)/\Ch (·∈F) w w':=by
 unfold DvAt at hv;obtain ⟨xs,H,a1,rfl,a2⟩:=hv;rw [List.nodup_append] at hF;obtain ⟨f1,f2,f3⟩:=hF
 obtain ⟨v',w',hr,b1,b2,_,b4⟩:=run_append_own_at (P:=P) (w:=w) 0 t ty e i z k bytes h1 h2 h3 h4 h5 h6 hk v n xs a1 ⟨g,0,none⟩ 1 1 ys (by omega) (λ j u hu=>by
   rw [Addr.add_lit,Nat.zero_add]
   exact hg.c j hu) hd.ones (by unfold maxLen;omega) (by
   have:(n+1)*bytes<=1000001*10000:=Nat.mul_le_mul (by omega) hb
   omega) (Nat.zero_le _)
 have hc:Ch (·∈v.ownBlock.toList) w w':=Ch.of_grown b2 (λ k hk=>by simp [hk]);have hc':Ch (·∈v.ownBlock.toList++H) w w':=hc.mono (λ k _ hk=>List.mem_append_left _ hk);have hH:=a2.lt;have hY:=hd.lt
 have hown:∀j∈v'.ownBlock.toList,j∈v.ownBlock.toList∨j=w.heap.size:=λ j hj=>by
  rcases b4 with b|b
  ·rw [b] at hj;exact .inl hj
  ·rw [b] at hj;exact .inr (by simpa using hj)
 refine ⟨v',w',v'.ownBlock.toList++(H++F2),hr,?_,?_,?_,hc'⟩
 ·unfold DvAt;exact ⟨xs++ys,H++F2,b1,rfl,(a2.ch hc (λ j hj hj'=>f3 j hj' j hj rfl)).app (hd.ch hc (λ j hj hj'=>hdis j (List.mem_append_left _ hj') hj))⟩
 ·rw [List.nodup_append,List.nodup_append];refine ⟨?_,⟨f2,hF2,λ a ha b hb e=>by subst e;exact hdis a (List.mem_append_right _ ha) hb⟩,λ a ha b hb e=>?_⟩
  ·cases v'.ownBlock <;> simp
  ·subst e;rcases hown a ha with h|h
   ·rcases List.mem_append.1 hb with hb|hb
    ·exact f3 a h a hb rfl
    ·exact hdis a (List.mem_append_left _ h) hb
   ·rcases List.mem_append.1 hb with hb|hb
    ·have:=hH a hb;omega
    ·have:=hY a hb;omega
 ·intro j hj;rcases List.mem_append.1 hj with hj|hj
  ·rcases hown j hj with h|h
   ·exact .inl (List.mem_append_left _ h)
   ·exact .inr (.inr (by omega))
  ·rcases List.mem_append.1 hj with hj|hj
   ·exact .inl (List.mem_append_right _ hj)
   ·exact .inr (.inl hj)
theorem infoMove:(Tryz.prog.info? 57).map (λ i=>(i.zero,i.size,i.bytes))=some (some (.agg #[.int .i64 0,.string ⟨#[]⟩,.int .i64 0,.bool false,.int .i64 0,.int .i64 0,.string ⟨#[]⟩,.int .i64 0,.slice none 0 0,.int .i64 0,.slice none 0 0,.slice none 0 0,.int .i64 0]),13,168):=by kernel_rfl
theorem infoNode:(Tryz.prog.info? 27).map (λ i=>(i.zero,i.size,i.bytes))=some (some (.agg #[.int .i64 0,.string ⟨#[]⟩,.string ⟨#[]⟩,.string ⟨#[]⟩,.slice none 0 0,.slice none 0 0,.slice none 0 0,.slice none 0 0,.int .i64 0]),9,160):=by kernel_rfl
theorem infoStr7:(Tryz.prog.info? 9).map (λ i=>(i.zero,i.size,i.bytes))=some (some (.string ⟨#[]⟩),1,16):=by kernel_rfl
theorem ldMove {w:World} {g:Nat} {v0 v1 v2 v3 v4 v5 v6 v7 v8 v9 v10 v11 v12:Value} (h:CB w g 57 [v0,v1,v2,v3,v4,v5,v6,v7,v8,v9,v10,v11,v12]):(loadVar 57 ⟨g,0,none⟩).run Tryz.prog w=.ok (.agg #[v0,v1,v2,v3,v4,v5,v6,v7,v8,v9,v10,v11,v12]) w :=
 run_loadVar_row w g _ _ _ _ _ h Tryz.underlying57 rfl (by kernel_rfl)
theorem resMove {w:World} {g:Nat} {v0 v1 v2 v3 v4 v5 v6 v7 v8 v9 v10 v11 v12:Value} {fn:Func} {p:Tmp} (hr:fn.results=#[.cell p 57]) (tmps:Array Value) (hp:tmps.getD p undef=.pointer (some ⟨g,0,none⟩)) (h:CB w g 57 [v0,v1,v2,v3,v4,v5,v6,v7,v8,v9,v10,v11,v12]) :
  (results fn tmps).run Tryz.prog w=.ok (.agg #[v0,v1,v2,v3,v4,v5,v6,v7,v8,v9,v10,v11,v12]) w:=by
 have hp':tmps[p]?.getD undef=.pointer (some ⟨g,0,none⟩):=by simpa using hp
 simp [results,hr,hp',asAddr,ldMove h]
theorem ldNode {w:World} {g:Nat} {v0 v1 v2 v3 v4 v5 v6 v7 v8:Value} (h:CB w g 27 [v0,v1,v2,v3,v4,v5,v6,v7,v8]):(loadVar 27 ⟨g,0,none⟩).run Tryz.prog w=.ok (.agg #[v0,v1,v2,v3,v4,v5,v6,v7,v8]) w :=
 run_loadVar_row w g _ _ _ _ _ h Tryz.underlying27 rfl (by kernel_rfl)
theorem resNode {w:World} {g:Nat} {v0 v1 v2 v3 v4 v5 v6 v7 v8:Value} {fn:Func} {p:Tmp} (hr:fn.results=#[.cell p 27]) (tmps:Array Value) (hp:tmps.getD p undef=.pointer (some ⟨g,0,none⟩)) (h:CB w g 27 [v0,v1,v2,v3,v4,v5,v6,v7,v8]) :
  (results fn tmps).run Tryz.prog w=.ok (.agg #[v0,v1,v2,v3,v4,v5,v6,v7,v8]) w:=by
 have hp':tmps[p]?.getD undef=.pointer (some ⟨g,0,none⟩):=by simpa using hp
 simp [results,hr,hp',asAddr,ldNode h]
theorem ldChart {w:World} {g:Nat} {v0 v1 v2 v3 v4 v5 v6 v7 v8 v9:Value} (h:CB w g 29 [v0,v1,v2,v3,v4,v5,v6,v7,v8,v9]):(loadVar 29 ⟨g,0,none⟩).run Tryz.prog w=.ok (.agg #[v0,v1,v2,v3,v4,v5,v6,v7,v8,v9]) w :=
 run_loadVar_row w g _ _ _ _ _ h Tryz.underlying29 rfl (by kernel_rfl)
theorem resChart {w:World} {g:Nat} {v0 v1 v2 v3 v4 v5 v6 v7 v8 v9:Value} {fn:Func} {p:Tmp} (hr:fn.results=#[.cell p 29]) (tmps:Array Value) (hp:tmps.getD p undef=.pointer (some ⟨g,0,none⟩)) (h:CB w g 29 [v0,v1,v2,v3,v4,v5,v6,v7,v8,v9]) :
  (results fn tmps).run Tryz.prog w=.ok (.agg #[v0,v1,v2,v3,v4,v5,v6,v7,v8,v9]) w:=by
 have hp':tmps[p]?.getD undef=.pointer (some ⟨g,0,none⟩):=by simpa using hp
 simp [results,hr,hp',asAddr,ldChart h]
def dvAct (o:Bool) (a:SyAct):List DV:=[.v (.int .i64 a.kind),.v (txV a.name)]++dvEx o a.value++[.v (.int .i64 a.at_)]
def dvActs (o:Bool) (l:List SyAct):DV:=.row 156 9 l.length (l.flatMap (dvAct o))
def dvStrs (l:List (List UInt8)):DV:=.row 9 1 l.length (l.map λ s=>.v (txV s))
def dvMove (o:Bool) (m:SyMove):List DV:=[.v (.int .i64 m.kind),.v (txV m.event),.v (.int .i64 m.wait),.v (.bool m.guarded)]++dvEx o m.guard++[dvActs o m.acts,dvStrs m.targets,.v (.int .i64 m.at_)]
def dvMoves (o:Bool) (l:List SyMove):DV:=.row 57 13 l.length (l.flatMap (dvMove o))
def dvVar (v:SyVar):List DV:=[.v (txV v.name),.v (.int .i64 v.num),.v (.int .i64 v.at_)]
def dvVars (l:List SyVar):DV:=.row 73 3 l.length (l.flatMap dvVar)
mutual
def dvNode (o:Bool):SyNode->List DV
 |.mk k name ini dft en le mo ks p=>[.v (.int .i64 k),.v (txV name),.v (txV ini),.v (txV dft),dvActs o en,dvActs o le,dvMoves o mo,.row 27 9 ks.length (dvNodes o ks),.v (.int .i64 p)]
def dvNodes (o:Bool):List SyNode->List DV
 |[]=>[]
 |x::l=>dvNode o x++dvNodes o l
end
def dvKids (o:Bool) (l:List SyNode):DV:=.row 27 9 l.length (dvNodes o l)
def dvChart (o:Bool) (c:SyChart):List DV:=dvVars c.vars::dvNode o c.root
theorem dvNodes_snoc (o:Bool):∀(l:List SyNode) (x:SyNode),dvNodes o (l++[x])=dvNodes o l++dvNode o x
 |[],x=>by show dvNode o x++dvNodes o []=[]++dvNode o x;rw [dvNodes];simp
 |y::l,x=>by
  show dvNode o y++dvNodes o (l++[x])=dvNode o y++dvNodes o l++dvNode o x;rw [dvNodes_snoc o l x,a_]
theorem dvNode_mk (o:Bool) (k:Int) (name ini dft:List UInt8) (en le:List SyAct) (mo:List SyMove) (ks:List SyNode) (p:Int) :
  dvNode o (.mk k name ini dft en le mo ks p)=[.v (.int .i64 k),.v (txV name),.v (txV ini),.v (txV dft),dvActs o en,dvActs o le,dvMoves o mo,dvKids o ks,.v (.int .i64 p)]:=by rw [dvNode];rfl
theorem Rs.seq {α β:Type} {e:Rs α} {x:α} (h:e.is x) (f:α->Ss->Rs β):e.bind f=e.void.go (f x):=by
 cases e with
 |out=>rfl
 |bad c p=>rfl
 |ok y s =>
  have:=h y s rfl;subst this;rfl
theorem go_go (m:Rs Unit) (f:Ss->Rs Unit) {β:Type} (g:Ss->Rs β):(m.go f).go g=m.go λ s=>(f s).go g:=by cases m <;> rfl
theorem unit_bind {β:Type} (e:Rs Unit) (f:Unit->Ss->Rs β):e.bind f=e.go (f ()):=by cases e <;> rfl
theorem go_ok_void {α:Type} (m:Rs Unit) (x:α):(m.go λ s=>(.ok x s:Rs α)).void=m:=by cases m <;> rfl
theorem go_ok_is {α:Type} (m:Rs Unit) (x:α):(m.go λ s=>(.ok x s:Rs α)).is x:=λ y s e=>by
 cases m with
 |out=>cases e
 |bad c p=>cases e
 |ok z r=>exact (Rs.ok.inj e).1.symm
theorem must_fin {α:Type} (m:Rs Unit) (x:α) {f:Ss->Rs Unit}:((m.go f).go λ s=>(.ok x s:Rs α))=m.go λ s=>(f s).bind λ _ s=>.ok x s:=by cases m <;> rfl
theorem Rep.v' {w:World} {base:Nat} {u u':Value} {ds:List DV} {xs:List Value} (hu:u=u') (h:Rep w base ds xs) (h1:u.oneCell'=true:=by rfl):Rep w base (.v u::ds) (u'::xs):=by
 subst hu;exact h.v h1
theorem Rep.snoc {w:World} {base:Nat} {u:Value} {ds:List DV} {xs:List Value} (h:Rep w base ds xs) (hu:u.oneCell'=true):Rep w base (ds++[.v u]) (xs++[u]):=by
 obtain ⟨F,h1,h2,h3⟩:=h;exact ⟨F++[],h1.app (DvsAt.v hu (DvsAt.nil w)),by simpa using h2,by simpa using h3⟩
section
variable {w2 w w':World} {b:Nat} {K:Kx} {V D:Int} {m2:Rs Unit} {p:Nat} {vals:Nat->Option Value}
end
theorem head_tok {K:Kx} {s:Ss} {t t':Tk} {l:List Tk} (h:TokAt K (.ok () s) t') (hs:s.ts=t::l):t'=t:=by
 obtain ⟨r,hr⟩:=h.2 s rfl;rw [hs] at hr;injection hr with e _;exact e.symm
theorem Ch.trans2 {S S1:Nat->Prop} {u w w':World} (h:Ch S u w) (k:Ch S1 w w') (hs:∀j,j<u.heap.size->S1 j->S j):Ch S u w' :=
 ⟨k.os.trans h.os,k.tape.trans h.tape,k.output.trans h.output,Nat.le_trans h.size k.size,λ i hi hn=>(k.block i (Nat.lt_of_lt_of_le hi h.size) (λ hs1=>hn (hs i hi hs1))).trans (h.block i hi hn)⟩
def Stays (b:Nat) (Pp:World->Prop):Prop:=∀(S:Nat->Prop) (W W':World),Pp W->Ch S W W'->(∀k,S k->b<k)->Pp W'
theorem Stays.below {b:Nat} {Pp:World->Prop} (h:Stays b Pp) {W W':World} (hp:Pp W) (hb:Below W.heap.size W W'):Pp W':=h (λ _=>False) W W' hp (Ch.of_below hb) (λ _ h=>h.elim)
theorem stays_ps (b:Nat) (K:Kx) (V D:Int) (m:Rs Unit):Stays b (λ W=>PS W b K V D m):=λ _ _ _ hp hc hs=>hp.ch hc hs
structure BIv (w0:World) (b gl:Nat) (T:TypeId) (vs:List Value) (Pp Pq:World->Prop) (e:TypeId) (k n:Nat) (cs:List DV) (v:Value) (F:List Nat) (pd:List DV->Prop) (Mk:Value->List Value->Prop) (ic ib ia p:Nat) (vals:Nat->Option Value) (W:World):Prop where
 ch:Ch (λ j=>j=b∨j∈F) w0 W
 p0:p=0->Pp W
 row:p<=2->DvAt W (.row e k n cs) v F
 cell:CB W gl T vs
 p1:1<=p->p<=2->∃u ys ds F2,vals ic=some u/\Mk u ys/\pd ds/\DvsAt W ds ys F2/\ys.length=k/\F2.Nodup/\(∀g∈F2,w0.heap.size<=g)/\Pq W/\(p=2->∃gs,vals ib=some (.slice (some ⟨gs,0,none⟩) 1 1)/\CB W gs e ys)
 p3:3<=p->∃ds v' F',vals ia=some v'/\pd ds/\DvAt W (.row e k (n+1) (cs++ds)) v' F'/\F'.Nodup/\(∀g∈F',g∈F∨w0.heap.size<=g)/\Pq W
section
variable {w0 w w':World} {b gl:Nat} {T:TypeId} {vs:List Value} {Pp Pq:World->Prop} {e:TypeId} {k n:Nat} {cs:List DV} {v:Value} {F:List Nat} {pd:List DV->Prop} {Mk:Value->List Value->Prop} {ic ib ia p:Nat} {vals:Nat->Option Value}
theorem BIv.loc {vals':Nat->Option Value} (h:BIv w0 b gl T vs Pp Pq e k n cs v F pd Mk ic ib ia p vals w) (h1:vals' ic=vals ic) (h2:vals' ib=vals ib) (h3:vals' ia=vals ia):BIv w0 b gl T vs Pp Pq e k n cs v F pd Mk ic ib ia p vals' w :=
 ⟨h.ch,h.p0,h.row,h.cell,by rw [h1,h2];exact h.p1,by rw [h3];exact h.p3⟩
theorem BIv.zero (hs:Stays b Pp) (hp:Pp w0) (hr:DvAt w0 (.row e k n cs) v F) (hc:CB w0 gl T vs):BIv w0 b gl T vs Pp Pq e k n cs v F pd Mk ic ib ia 0 (λ _=>none) w0.drew :=
 ⟨(Ch.refl _ w0).drew,λ _=>hs.below hp (b_ _ w0).drew,λ _=>hr.below (b_ _ w0).drew,hc,λ h=>absurd h (by omega),λ h=>absurd h (by omega)⟩
theorem BIv.call (h:BIv w0 b gl T vs Pp Pq e k n cs v F pd Mk ic ib ia 0 vals w) {u:Value} {ys:List Value} {ds:List DV} (hmk:Mk u ys) (hd:pd ds) (hr:Rep w' w.heap.size ds ys) (hl:ys.length=k) (hq:Pq w') (hm:Mv b w w') (hgl:gl≠b) (hF:b∉F):BIv w0 b gl T vs Pp Pq e k n cs v F pd Mk ic ib ia 1 (updV vals ic u) w':=by
 obtain ⟨F2,f1,f2,f3⟩:=hr;refine ⟨h.ch.trans ((Ch.of_mv hm).mono (λ _ _ h=>.inl h)),λ e=>absurd e (by omega),λ _=>(h.row (by omega)).ch (Ch.of_mv hm) (λ g hg e=>hF (by rw [<-e];exact hg)),h.cell.mv hm hgl,λ _ _=>⟨u,ys,ds,F2,updV_same _ _ _,hmk,hd,f1,hl,f2,λ g hg=>Nat.le_trans h.ch.size (f3 g hg),hq,λ e=>absurd e (by omega)⟩,λ e=>absurd e (by omega)⟩
theorem BIv.build (h:BIv w0 b gl T vs Pp Pq e k n cs v F pd Mk ic ib ia 1 vals w) (hs:Stays b Pq) (d1:ic≠ib):∃u ys,vals ic=some u/\Mk u ys/\ys.length=k/\BIv w0 b gl T vs Pp Pq e k n cs v F pd Mk ic ib ia 2 (updV vals ib (.slice (some ⟨w.heap.size,0,none⟩) 1 1)) (w.alloc (.cells ys.toArray e)):=by
 obtain ⟨u,ys,ds,F2,c1,cm,c2,c3,c4,c5,c6,c7,_⟩:=h.p1 (n_ _) (by omega);have hb:Below w.heap.size w (w.alloc (.cells ys.toArray e)):=(b_ _ w).alloc (n_ _) _;exact ⟨u,ys,c1,cm,c4,h.ch.trans (Ch.of_below hb),λ e=>absurd e (by omega),λ _=>(h.row (by omega)).below hb,h.cell.below hb,λ _ _=>⟨u,ys,ds,F2,by rw [updV_ne vals _ d1];exact c1,cm,c2,c3.below hb,c4,c5,c6,hs.below c7 hb,λ _=>⟨w.heap.size,updV_same _ _ _,CB.new w e ys⟩⟩,λ e=>absurd e (by omega)⟩
theorem BIv.app (h:BIv w0 b gl T vs Pp Pq e k n cs v F pd Mk ic ib ia 2 vals w) (P:Program) (t ty:TypeId) (z:Value) (bytes:Nat) (hinfo:(P.info? e).map (λ i=>(i.zero,i.size,i.bytes))=some (some z,k,bytes)) (h1:P.underlying t=some (.slice e)) (h6:z.cells.size=k) (hk:0<k) (hbt:bytes<=10000)
  {gs:Nat} (hgs:vals ib=some (.slice (some ⟨gs,0,none⟩) 1 1)) (hn:n<=1000000) (hFn:F.Nodup) (hFl:∀g∈F,g<w0.heap.size/\b<g) (hgl:gl∉F) (hs:Stays b Pq) :
  ∃v' w',(Builtin.append_ #[t,t] ty #[v,.slice (some ⟨gs,0,none⟩) 1 1]).run P w=.ok v' w'/\BIv w0 b gl T vs Pp Pq e k n cs v F pd Mk ic ib ia 3 (updV vals ia v') w':=by
 obtain ⟨i,hi,hz0,hz1,hz2⟩:=info_parts hinfo;obtain ⟨_,ys,ds,F2,_,_,c2,c3,c4,c5,c6,c7,c8⟩:=h.p1 (by omega) (n_ _);obtain ⟨gs',c9,c10⟩:=c8 rfl
 obtain rfl:gs=gs':=by
  rw [hgs] at c9;injection c9 with c9;injection c9 with c9;injection c9 with c9;injection c9 with c9
 obtain ⟨v',w',F',hr,a1,a2,a3,a4⟩:=run_append_dv t ty e i z k bytes h1 hi hz0 hz1 hz2 h6 hk (h.row (n_ _)) hFn c10 c3 c4 c5 (λ a ha hb=>by have:=(hFl a ha).1;have:=c6 a hb;omega) hn hbt;refine ⟨v',w',hr,h.ch.trans (a4.mono (λ _ _ h=>.inr h)),λ e=>absurd e (by omega),λ e=>absurd e (by omega),h.cell.ch a4 hgl,λ _ e=>absurd e (by omega),λ _=>⟨ds,v',F',updV_same _ _ _,c2,a1,a2,λ g hg=>?_,hs _ _ _ c7 a4 (λ k hk=>(hFl k hk).2)⟩⟩;rcases a3 g hg with h'|h'|h'
 ·exact .inl h'
 ·exact .inr (c6 g h')
 ·exact .inr (Nat.le_trans h.ch.size h')
end
def BFin (w0:World) (b gl:Nat) (T:TypeId) (vs:List Value) (jl:Nat) (Pq:World->Prop) (e:TypeId) (k n:Nat) (cs:List DV) (F:List Nat) (pd:List DV->Prop) (wr:World):Prop :=
 ∃ds v' F',CB wr gl T (vs.set jl v')/\pd ds/\DvAt wr (.row e k (n+1) (cs++ds)) v' F'/\F'.Nodup/\(∀g∈F',g∈F∨w0.heap.size<=g)/\Pq wr/\Ch (λ j=>j=b∨j=gl∨j∈F) w0 wr
theorem BIv.fin {w0 w:World} {b gl:Nat} {T:TypeId} {vs:List Value} {Pp Pq:World->Prop} {e:TypeId} {k n:Nat} {cs:List DV} {v:Value} {F:List Nat} {pd:List DV->Prop} {Mk:Value->List Value->Prop} {ic ib ia:Nat} {vals:Nat->Option Value} (h:BIv w0 b gl T vs Pp Pq e k n cs v F pd Mk ic ib ia 3 vals w) (hs:Stays b Pq) {v':Value} (hv:vals ia=some v') (jl:Nat) (hbg:b<gl) (hgl:gl∉F) (hgw:gl<w0.heap.size) :
  BFin w0 b gl T vs jl Pq e k n cs F pd (w.setCell ⟨gl,jl,none⟩ v'):=by
 obtain ⟨ds,v2,F',c1,c2,c3,c4,c5,c6⟩:=h.p3 (n_ _)
 obtain rfl:v'=v2:=by rw [hv] at c1;injection c1
 have hm:Mv gl w (w.setCell ⟨gl,jl,none⟩ v'):=(Mv.refl gl w).set jl v';refine ⟨ds,v',F',h.cell.set jl v',c2,c3.ch (Ch.of_mv hm) (λ g hg e=>?_),c4,c5,hs _ _ _ c6 (Ch.of_mv hm) (λ k e=>by have e':k=gl:=e;omega),(h.ch.mono (λ k _ hk=>?_)).trans ((Ch.of_mv hm).mono (λ k _ hk=>.inr (.inl hk)))⟩
 ·have e':g=gl:=e;subst e';rcases c5 g hg with h'|h'
  ·exact hgl h'
  ·omega
 ·rcases hk with hk|hk
  ·exact .inl hk
  ·exact .inr (.inr hk)
theorem DvAt.slice {w:World} {e:TypeId} {k n:Nat} {cs:List DV} {x:Value} {F:List Nat} (h:DvAt w (.row e k n cs) x F):∃A c,x=.slice A n c/\n<=c/\c<=maxLen:=by
 unfold DvAt at h;obtain ⟨xs,H,h1,_⟩:=h;rcases h1.2 with ⟨h2,h3⟩|⟨g,cap,cur,h2,_,_,h3,h4,_⟩
 ·subst h3;exact ⟨none,0,h2,n_ _,Nat.zero_le _⟩
 ·exact ⟨_,_,h2,h3,h4⟩
theorem cells9 {l:List Value} (h:l.length=9):∃y0 y1 y2 y3 y4 y5 y6 y7 y8,l=[y0,y1,y2,y3,y4,y5,y6,y7,y8]:=by
 match l,h with
 |[y0,y1,y2,y3,y4,y5,y6,y7,y8],_=>exact ⟨_,_,_,_,_,_,_,_,_,rfl⟩
def Rs.left (m:Rs Unit):Nat:=match m with
 |.ok _ s=>s.ts.length+1
 |_=>0
def msP (b n:Nat) (w:World):Nat:=match w.cell? ⟨b,2,none⟩,w.cell? ⟨b,1,none⟩ with
 |some (.int _ c),some (.int _ q)=>if c=0 then n-q.toNat+1 else 0
 |_,_=>0
theorem PS.ms {w:World} {b:Nat} {K:Kx} {V D:Int} {m:Rs Unit} (h:PS w b K V D m):msP b K.n w=m.left:=by
 obtain ⟨r,h1,h2,_,_,h5⟩:=h.out;unfold msP;rw [h1.c2,h1.c1]
 cases m with
 |out=>exact absurd h5 (by intro h;exact h)
 |bad c p =>
  show (if r.code=0 then _ else 0)=0;rw [if_neg (by rw [h5.1];exact h5.2.2)]
 |ok x s =>
  show (if r.code=0 then _ else 0)=s.ts.length+1;rw [if_pos h5.1,<-h5.2.1,List.length_drop,h.at_.1];simp
theorem each_it {σ:Type} (b:Nat) (K:Kx) (D:Int) (g:Nat) (us:List (List UInt8)) (kf:Nat) (caps:Array Value) (hE:∀args w,(callFunc kf args).run Tryz.prog w=.ok (.enter kf args) w)
  (stp:σ->Ss->Rs (σ×Bool)) (hgoes:Goes stp) (Iv:σ->Rs Unit->World->Prop)
  (hps:∀x m w,Iv x m w->∃V,PS w b K V D m) (htx:∀x m w,Iv x m w->CB w g 9 (us.map txV)) (hb:∀x m w w',Iv x m w->Below w.heap.size w w'->Iv x m w')
  (hstop:∀x s t l,s.ts=t::l->LexT t->bgn us s=false->stp x s=.ok (x,false) s) (hgo:∀x s y s' t l,s.ts=t::l->LexT t->bgn us s=true->stp x s≠.ok (y,false) s')
  (hR:∀x s w,Iv x (.ok () s) w->bgn us s=true->Calls Tryz.prog kf caps w λ e w'=>e=.returned (.tuple #[])/\∃y,(∀z bb s',stp x s=.ok (z,bb) s'->z=y)/\Iv y (stp x s).void w')
  (x:σ) (m:Rs Unit) (w:World) (h0:Iv x m w) (hu:us.length<=1000000) :
  Calls Tryz.prog 112 #[.pointer (some ⟨b,0,none⟩),.func (.func kf) #[] caps,.slice (some ⟨g,0,none⟩) us.length us.length] w λ e w'=>e=.returned (.tuple #[])/\∃y,(m.go (It stp x)).is y/\Iv y (m.go (It stp x)).void w':=by
 refine (seach_any w b g us.length kf caps hE (λ W=>∃x1 m1,Iv x1 m1 W/\m.go (It stp x)=m1.go (It stp x1)) (λ d W=>∃x1 m1,Iv x1 m1 W/\m.go (It stp x)=m1.go (It stp x1)/\d=m1.tell (bgn us)) (msP b K.n) ?_ ?_ ⟨x,m,h0,rfl⟩).mono ?_
 ·rintro W ⟨x1,m1,hi,he⟩;obtain ⟨V,hp⟩:=hps _ _ _ hi;refine (sbegins_any W b K V D m1 g us hp (htx _ _ _ hi) hu).mono ?_;rintro e w' ⟨rfl,hbl⟩;refine ⟨_,rfl,⟨x1,m1,hb _ _ _ _ hi hbl,he,rfl⟩,?_⟩;rw [hp.ms,(hp.below hbl).ms];exact n_ _
 ·rintro W ⟨x1,m1,hi,he,hd⟩;obtain ⟨s,rfl,hbg⟩:=Rs.tell_true hd.symm;obtain ⟨V,hp⟩:=hps _ _ _ hi;obtain ⟨t,l,hs,hl,_,_,_⟩:=hp.head rfl;refine (hR x1 s W hi hbg).mono ?_;rintro e w' ⟨rfl,y,hy,hi'⟩;refine ⟨rfl,⟨y,_,hi',?_⟩,?_⟩
  ·rw [he];show It stp x1 s=_;rw [It_eq hgoes]
   cases e1:stp x1 s with
   |out=>rfl
   |bad c p=>rfl
   |ok z s' =>
    obtain ⟨z,bb⟩:=z;obtain rfl:=hy z bb s' e1
    cases bb with
    |false=>exact absurd e1 (hgo x1 s z s' t l hs hl hbg)
    |true=>rfl
  ·obtain ⟨V',hp'⟩:=hps _ _ _ hi';rw [hp.ms,hp'.ms];show _<s.ts.length+1
   cases e1:stp x1 s with
   |out=>exact Nat.succ_pos _
   |bad c p=>exact Nat.succ_pos _
   |ok z s' =>
    obtain ⟨z,bb⟩:=z
    cases bb with
    |false=>exact absurd e1 (hgo x1 s z s' t l hs hl hbg)
    |true =>
     have:=hgoes _ _ _ _ e1;show s'.ts.length+1<_;omega
 ·rintro e w' ⟨rfl,x1,m1,hi,he,hd⟩;refine ⟨rfl,x1,?_⟩;rw [he];obtain ⟨V,hp⟩:=hps _ _ _ hi
  cases m1 with
  |out=>exact absurd rfl hp.notOut
  |bad c p=>exact ⟨λ _ _ h=>(by cases h),hi⟩
  |ok u s =>
   obtain ⟨t,l,hs,hl,_,_,_⟩:=hp.head rfl;have h1:=hstop x1 s t l hs hl hd.symm
   have h2:It stp x1 s=.ok x1 s:=by rw [It_eq hgoes,h1];rfl
   show (It stp x1 s).is x1/\Iv x1 (It stp x1 s).void w';rw [h2];refine ⟨λ y s' e=>(Rs.ok.inj e).1.symm,?_⟩;cases u;exact hi
theorem word_bgn {l:List (List UInt8)} (hl:∀u∈l,isKw u=true) {s:Ss} {t:Tk} {r:List Tk} (hs:s.ts=t::r) (ht:LexT t):∀i,i≠0->(bgn l s=true ↔ wordAt s.ts l i≠0):=by
 unfold bgn textAt;rw [hs]
 induction l with
 |nil=>intro i _;simp [wordAt]
 |cons u l ih =>
  intro i hi;have h1:isAt 2 u (t::r)=decide (t.text=u):=tells_kw (hl u (by simp)) t ht;rw [wordAt,h1]
  by_cases c:t.text=u
  ·simp [c,hi]
  ·rw [if_neg (by simpa using c),<-ih (λ v hv=>hl v (by simp [hv])) (i+1) (by omega)];simp [c]
theorem PS.left_le {w:World} {b:Nat} {K:Kx} {V D:Int} {s:Ss} (h:PS w b K V D (.ok () s)):s.ts.length<=K.n:=by
 obtain ⟨r,_,_,_,_,h5⟩:=h.out;rw [<-h5.2.1,List.length_drop,h.at_.1];omega
end Go.Proofs.YtocecpghoncmgaaGreatDoor
