import Derived.Test.YtpgeidpfhakgaaaGreatDoorQh
import Derived.Test.YtpgeidpfhakgaaaGreatDoorQXF
import Derived.Test.YtpgeidpfhakgaaaGreatDoorQScCuts
import Derived.Test.YtpgeidpfhakgaaaGreatDoorEB
set_option maxHeartbeats 12800000
set_option maxRecDepth 20000
namespace Go.Proofs.YtpgeidpfhakgaaaGreatDoor
open Go.RowKit
section
variable {P:Program} {ops:Array Oper} {Q:Exit->Act->World->Prop}
theorem region_free3 (base:Act) (id:Nat) (w0:World) (hm:P.follows .mixedOrders=true) (last:Nat) (hlast:ops.size=last+1) (hB:freeB ops=true) (hc:coverB ops last=true) (D:Nat->List Nat) (hD:depsB ops D=true) (hin:inB ops base.tmps.size=true)
  (F:Nat->Value->Prop) (G:(Nat->Option Value)->World->Prop) (Fin:(Nat->Option Value)->World->Prop)
  (h0:G (λ _=>none) w0.drew)
  (hstep:∀i o,i<last->ops[i]?=some o->∀(a:Act) (vals:Nat->Option Value) (w:World),G vals w->(∀k,outB ops k=true->a.eval (.tmp k)=base.eval (.tmp k))->(∀j∈D i,F j (a.eval (.tmp (slotOf ops j)))/\vals j=some (a.eval (.tmp (slotOf ops j))))->vals i=none->(∀j k,vals j≠none->k∈D j->j<ops.size->vals k≠none)->(∀j v,vals j=some v->F j v) ->
   o.wp P a w (λ a' w'=>∃v,a'=a.put o.dst v/\F i v/\G (updV vals i v) w') Q)
  (hfin:∀o,ops[last]?=some o->∀(a:Act) (vals:Nat->Option Value) (w:World),G vals w->(∀k,outB ops k=true->a.eval (.tmp k)=base.eval (.tmp k))->(∀j∈D last,F j (a.eval (.tmp (slotOf ops j)))/\vals j=some (a.eval (.tmp (slotOf ops j))))->(∀j,j<last->vals j≠none)->(∀j v,vals j=some v->F j v) ->
   o.wp P a w (λ a' w'=>∃v,a'=a.put o.dst v/\∀vals':Nat->Option Value,(∀j,j<last->vals' j=vals j)->Fin vals' w') Q)
  (hdone:∀vals w,Fin vals w->(∀i,i<last+1->(vals i).isSome=true)->Q .normal (puts ops vals (List.range (last+1)) base) w) :
  (Code.region id ops true).wp P Q base w0:=by
 have hout:∀(vals:Nat->Option Value) (k:Nat),outB ops k=true->(puts ops vals (List.range ops.size) base).eval (.tmp k)=base.eval (.tmp k):=λ vals k hk=>by
  show (puts ops vals (List.range ops.size) base).tmps.getD k undef=base.tmps.getD k undef
  rw [Array.getD_eq_getD_getElem?,Array.getD_eq_getD_getElem?,puts_other vals k _ _ (λ j _ o ho e=>by
   unfold outB at hk;have:=(Array.all_eq_true_iff_forall_mem.1 hk) o (Array.mem_of_getElem? ho);rw [e] at this
   simp at this)]
 have hget:∀(vals:Nat->Option Value) (i:Nat) (o:Oper),ops[i]?=some o->(∀e∈o.after,Region.binds .any e=true->(vals e.on).isSome=true)->∀j∈D i,j<i/\vals j=some ((puts ops vals (List.range ops.size) base).eval (.tmp (slotOf ops j))):=λ vals i o ho hdep j hj=>by
  have hlt:=(Array.getElem?_eq_some_iff.1 ho).1;unfold depsB at hD;have h1:=List.all_eq_true.1 hD i (List.mem_range.2 hlt);rw [ho] at h1;have h2:=List.all_eq_true.1 h1 j hj;simp only [Bool.and_eq_true,decide_eq_true_eq] at h2;obtain ⟨⟨h3,h4⟩,h5⟩:=h2;rw [<-Array.any_toList] at h4;obtain ⟨e,he0,h6⟩:=List.any_eq_true.1 h4;have he:e∈o.after:=Array.mem_toList_iff.1 he0;rw [Bool.and_eq_true,beq_iff_eq] at h6;have h7:=hdep e he h6.2;rw [h6.1] at h7;obtain ⟨v,hv⟩:=x_ h7;refine ⟨h3,?_⟩
  cases hp:ops[j]? with
  |none=>rw [hp] at h5;cases h5
  |some p =>
   rw [hp] at h5;obtain ⟨d,hd⟩:=x_ h5
   have hs:slotOf ops j=d:=by unfold slotOf;rw [hp];show (p.dst).getD 0=d;rw [hd];rfl
   have hdi:d<base.tmps.size:=by
    unfold inB at hin;have:=(Array.all_eq_true_iff_forall_mem.1 hin) p (Array.mem_of_getElem? hp);rw [hd] at this;simpa using this
   rw [hs,hv];show some v=some ((puts ops vals (List.range ops.size) base).tmps.getD d undef);rw [Array.getD_eq_getD_getElem?,puts_at hp hd hv (List.range ops.size) base List.nodup_range (List.mem_range.2 (by omega)) hdi (λ k hk hne q hq=>freeB_dst hB hp hq hne)];rfl
 have hclD:∀(vals:Nat->Option Value),(∀j p,vals j≠none->ops[j]?=some p->∀e∈p.after,Region.binds .any e=true->(vals e.on).isSome=true)->∀j k,vals j≠none->k∈D j->j<ops.size->vals k≠none:=λ vals hc j k hj hk hlt=>by
  have ho:=Array.getElem?_eq_getElem hlt;have h:=(hget vals j _ ho (λ e he hb=>hc j _ hj ho e he hb) k hk).2;rw [h];simp
 refine wp_region_any hm ?_
 have hb0:base=puts ops (λ _=>none) (List.range ops.size) base:=by
  have:∀(L:List Nat) (a:Act),puts ops (λ _=>none) L a=a:=λ L=>by
   induction L with
   |nil=>intro a;rfl
   |cons j L ih=>intro a;exact ih a
  rw [this]
 have main:=wpAny_free (P:=P) (Q:=Q) base hB
  (λ vals w=>(vals last=none->G vals w/\∀j v,vals j=some v->F j v)/\(vals last≠none->Fin vals w/\∀j,j<last+1->(vals j).isSome=true)/\(∀j p,vals j≠none->ops[j]?=some p->∀e∈p.after,Region.binds .any e=true->(vals e.on).isSome=true))
  (λ vals w i o hI ho hv hdep=>?_) (λ vals w hI hall=>?_) ops.size (Array.replicate ops.size false) (λ _=>none) w0.drew (List.range ops.size) (by simp) (λ i hi=>?_) (by simp) (λ i hi _=>List.mem_range.2 hi) ⟨λ _=>⟨h0,λ j v h=>by cases h⟩,λ h=>absurd rfl h,λ j p h=>absurd rfl h⟩
 ·rw [<-hb0] at main;exact main
 ·have hlt:=(Array.getElem?_eq_some_iff.1 ho).1
  have hln:vals last=none:=by
   cases hl:vals last with
   |none=>rfl
   |some v =>
    have:=(hI.2.1 (by rw [hl];simp)).2 i (by omega);rw [hv] at this;cases this
  obtain ⟨hG,hF⟩:=hI.1 hln;have hg2:=hget vals i o ho hdep
  have hcl:∀v,∀j p,updV vals i v j≠none->ops[j]?=some p->∀e∈p.after,Region.binds .any e=true->(updV vals i v e.on).isSome=true:=λ v j p hj hp e he hb=>by
   by_cases c:e.on=i
   ·rw [c,updV_same];rfl
   ·rw [updV_ne vals v c]
    by_cases d:j=i
    ·subst d;rw [ho] at hp;injection hp with hp;subst hp;exact hdep e he hb
    ·rw [updV_ne vals v d] at hj;exact hI.2.2 j p hj hp e he hb
  by_cases c:i=last
  ·subst c
   have hcov:∀j,j<i->(vals j).isSome=true:=cover_all hc (p:=λ j=>(vals j).isSome=true) (λ k q hk hq hkk e he hb=>by
    rcases hkk with rfl|hkk
    ·rw [ho] at hq;injection hq with hq;subst hq;exact hdep e he hb
    ·exact hI.2.2 k q (λ hn=>by rw [hn] at hkk;cases hkk) hq e he hb)
   refine Oper.wp_mono (λ a' w' hh=>?_) (hfin o ho _ vals w hG (hout vals) (λ j hj=>⟨hF j _ (hg2 j hj).2,(hg2 j hj).2⟩) (λ j hj hn=>by have:=hcov j hj;rw [hn] at this;cases this) hF);obtain ⟨v,rfl,hf⟩:=hh;refine ⟨v,rfl,λ h=>?_,λ _=>⟨hf _ (λ j hj=>updV_ne vals v (by omega)),λ j hj=>?_⟩,hcl v⟩
   ·rw [updV_same] at h;cases h
   ·by_cases d:j=i
    ·rw [d,updV_same];rfl
    ·rw [updV_ne vals v d];exact hcov j (by omega)
  ·refine Oper.wp_mono (λ a' w' hh=>?_) (hstep i o (by omega) ho _ vals w hG (hout vals) (λ j hj=>⟨hF j _ (hg2 j hj).2,(hg2 j hj).2⟩) hv (hclD vals hI.2.2) hF);obtain ⟨v,rfl,hf,hG'⟩:=hh
   have hl':updV vals i v last=none:=by rw [updV_ne vals v (λ e=>c e.symm)];exact hln
   refine ⟨v,rfl,λ _=>⟨hG',λ j u hu=>?_⟩,λ h=>absurd hl' h,hcl v⟩
   by_cases d:j=i
   ·subst d;rw [updV_same] at hu;injection hu with hu;rw [<-hu];exact hf
   ·rw [updV_ne vals v d] at hu;exact hF j u hu
 ·have hls:vals last≠none:=λ h=>by
   have:=hall last (by omega);rw [h] at this;cases this
  obtain ⟨h1,h2⟩:=hI.2.1 hls;rw [hlast];exact hdone vals w h1 h2
 ·rw [Array.getD_eq_getD_getElem?,Array.getElem?_replicate,if_pos hi];rfl
end
section
variable {P:Program} {ops:Array Oper} {Q:Exit->Act->World->Prop}
def chainB (rk:Nat->Option Nat) (D:Nat->List Nat) (last:Nat):Bool :=
 ((List.range (last+1)).all λ i=>match rk i with
  |some (r+1)=>if i=last then (List.range last).any λ j=>rk j==some r else (D i).any λ j=>rk j==some r || (D j).any λ k=>rk k==some r
  |_=>true) &&
 (List.range (last+1)).all λ i=>(List.range (last+1)).all λ j=>i==j || (rk i).isNone || rk i != rk j
def OpEnd (a:Act) (d:Option Tmp) (R:Value->World->Prop) (a':Act) (w':World):Prop:=∃v,a'=a.put d v/\R v w'
theorem region_mix (base:Act) (id:Nat) (w0:World) (hm:P.follows .mixedOrders=true) (last:Nat) (hlast:ops.size=last+1) (hB:freeB ops=true) (hc:coverB ops last=true) (D:Nat->List Nat) (hD:depsB ops D=true) (hin:inB ops base.tmps.size=true)
  (rk:Nat->Option Nat) (al:Nat->Bool) (N:Nat) (hN:rk last=some N) (hch:chainB rk D last=true)
  (F:Nat->(Nat->Option Value)->Value->Prop) (hFm:∀j vals vals' v,(∀k,vals k≠none->vals' k=vals k)->F j vals v->F j vals' v) (Inv:Nat->(Nat->Option Value)->World->Prop) (Fin:(Nat->Option Value)->World->Prop)
  (hloc:∀p vals vals' w,(∀j,(rk j).isSome=true∨al j=true->vals' j=vals j)->Inv p vals w->Inv p vals' w)
  (h0:Inv 0 (λ _=>none) w0.drew)
  (hpure:∀i o,i<last->rk i=none->al i=false->ops[i]?=some o->∀(a:Act) (vals:Nat->Option Value) (w:World) (p:Nat),p<=N->Inv p vals w->(∀k,outB ops k=true->a.eval (.tmp k)=base.eval (.tmp k))->(∀j∈D i,F j vals (a.eval (.tmp (slotOf ops j)))/\vals j=some (a.eval (.tmp (slotOf ops j)))) ->
   o.wp P a w (OpEnd a o.dst λ v w'=>F i vals v/\w'=w) Q)
  (halloc:∀i o,i<last->rk i=none->al i=true->ops[i]?=some o->∀(a:Act) (vals:Nat->Option Value) (w:World) (p:Nat),p<=N->Inv p vals w->vals i=none->(∀j k,vals j≠none->k∈D j->j<ops.size->vals k≠none) ->
   o.wp P a w (OpEnd a o.dst λ v w'=>F i vals v/\Inv p (updV vals i v) w') Q)
  (himp:∀i o r,i<last->rk i=some r->ops[i]?=some o->∀(a:Act) (vals:Nat->Option Value) (w:World),Inv r vals w->(∀k,outB ops k=true->a.eval (.tmp k)=base.eval (.tmp k))->(∀j∈D i,F j vals (a.eval (.tmp (slotOf ops j)))/\vals j=some (a.eval (.tmp (slotOf ops j))))->vals i=none->(∀j k,vals j≠none->k∈D j->j<ops.size->vals k≠none) ->
   o.wp P a w (OpEnd a o.dst λ v w'=>F i vals v/\Inv (r+1) (updV vals i v) w') Q)
  (hfin:∀o,ops[last]?=some o->∀(a:Act) (vals:Nat->Option Value) (w:World),Inv N vals w->(∀k,outB ops k=true->a.eval (.tmp k)=base.eval (.tmp k))->(∀j∈D last,F j vals (a.eval (.tmp (slotOf ops j)))/\vals j=some (a.eval (.tmp (slotOf ops j))))->(∀j,j<last->vals j≠none)->(∀j v,vals j=some v->F j vals v) ->
   o.wp P a w (OpEnd a o.dst λ _ w'=>∀vals':Nat->Option Value,(∀j,j<last->vals' j=vals j)->Fin vals' w') Q)
  (hdone:∀vals w,Fin vals w->(∀i,i<last+1->(vals i).isSome=true)->Q .normal (puts ops vals (List.range (last+1)) base) w) :
  (Code.region id ops true).wp P Q base w0:=by
 unfold chainB at hch;rw [Bool.and_eq_true] at hch
 have hc1:∀i r,i<last->rk i=some (r+1)->∃j∈D i,rk j=some r∨∃k∈D j,rk k=some r:=λ i r hi he=>by
  have:=List.all_eq_true.1 hch.1 i (List.mem_range.2 (by omega));rw [he] at this;simp only at this;rw [if_neg (by omega)] at this;obtain ⟨j,hj,h⟩:=List.any_eq_true.1 this;rw [Bool.or_eq_true] at h;rcases h with h|h
  ·exact ⟨j,hj,.inl (eq_of_beq h)⟩
  ·obtain ⟨k,hk,h⟩:=List.any_eq_true.1 h;exact ⟨j,hj,.inr ⟨k,hk,eq_of_beq h⟩⟩
 have hc3:∀r,rk last=some (r+1)->∃j,j<last/\rk j=some r:=λ r he=>by
  have:=List.all_eq_true.1 hch.1 last (List.mem_range.2 (by omega));rw [he] at this;simp only at this;rw [if_pos trivial] at this;obtain ⟨j,hj,h⟩:=List.any_eq_true.1 this;exact ⟨j,List.mem_range.1 hj,eq_of_beq h⟩
 have hc2:∀i j r,i<=last->j<=last->rk i=some r->rk j=some r->i=j:=λ i j r hi hj h1 h2=>by
  have:=List.all_eq_true.1 (List.all_eq_true.1 hch.2 i (List.mem_range.2 (by omega))) j (List.mem_range.2 (by omega));rw [h1,h2] at this;simp at this;exact this
 refine region_free3 base id w0 hm last hlast hB hc D hD hin (λ _ _=>True)
  (λ vals w=>∃p,p<=N/\(∀i r,i<=last->rk i=some r->((vals i).isSome=true ↔ r<p))/\(∀i,last<i->vals i=none)/\(∀j v,vals j=some v->F j vals v)/\Inv p vals w) Fin ⟨0,Nat.zero_le _,λ i r _ _=>by simp,λ _ _=>rfl,λ _ _ h=>(by cases h),h0⟩ ?_ ?_ hdone
 ·intro i o hi ho a vals w hG hbase hdep0 hv hcl _;obtain ⟨p,hpN,hp,hout,hF,hI⟩:=hG
  have hdep:∀j∈D i,F j vals (a.eval (.tmp (slotOf ops j)))/\vals j=some (a.eval (.tmp (slotOf ops j))):=λ j hj=>⟨hF j _ (hdep0 j hj).2,(hdep0 j hj).2⟩
  have hFv:∀v,F i vals v->∀j u,updV vals i v j=some u->F j (updV vals i v) u:=λ v hf j u hu=>by
   have hext:∀k,vals k≠none->updV vals i v k=vals k:=λ k hk=>updV_ne vals v (λ e=>hk (by rw [e];exact hv))
   by_cases c:j=i
   ·subst c;rw [updV_same] at hu;injection hu with hu;subst hu;exact hFm _ _ _ _ hext hf
   ·rw [updV_ne vals v c] at hu;exact hFm _ _ _ _ hext (hF j u hu)
  have hout':∀v j,last<j->updV vals i v j=none:=λ v j hj=>by rw [updV_ne vals v (by omega)];exact hout j hj
  cases hr:rk i with
  |none =>
   have hp':∀v j r,j<=last->rk j=some r->((updV vals i v j).isSome=true ↔ r<p):=λ v j r hj hjr=>by
    rw [updV_ne vals v (λ e=>by rw [e,hr] at hjr;cases hjr)];exact hp j r hj hjr
   cases ha:al i with
   |false =>
    refine Oper.wp_mono (λ a' w' hh=>?_) (hpure i o hi hr ha ho a vals w p hpN hI hbase hdep);obtain ⟨v,rfl,hf,rfl⟩:=hh;refine ⟨v,rfl,trivial,p,hpN,hp' v,hout' v,hFv v hf,hloc p vals _ _ (λ j hj=>updV_ne vals v (λ e=>?_)) hI⟩;rw [e,hr,ha] at hj;simp at hj
   |true =>
    refine Oper.wp_mono (λ a' w' hh=>?_) (halloc i o hi hr ha ho a vals w p hpN hI hv hcl);obtain ⟨v,rfl,hf,hI'⟩:=hh;exact ⟨v,rfl,trivial,p,hpN,hp' v,hout' v,hFv v hf,hI'⟩
  |some r =>
   have hle:¬r<p:=λ h=>by
    have:=(hp i r (by omega) hr).2 h;rw [hv] at this;cases this
   have hge:r<=p:=by
    match r,hr with
    |0,_=>exact Nat.zero_le _
    |r+1,hr =>
     obtain ⟨j,hj,hjr⟩:=hc1 i r hi hr
     have hle:∀k,vals k≠none->k<=last:=λ k hk=>by
      rcases Nat.lt_or_ge last k with h|h
      ·exact absurd (hout k h) hk
      ·exact h
     have h1:vals j≠none:=by rw [(hdep j hj).2];simp
     rcases hjr with hjr|⟨k,hk,hkr⟩
     ·have:=(hp j r (hle j h1) hjr).1 (Option.isSome_iff_ne_none.2 h1);omega
     ·have h2:=hcl j k h1 hk (by have:=hle j h1;omega);have:=(hp k r (hle k h2) hkr).1 (Option.isSome_iff_ne_none.2 h2);omega
   obtain rfl:p=r:=by omega
   refine Oper.wp_mono (λ a' w' hh=>?_) (himp i o p hi hr ho a vals w hI hbase hdep hv hcl);obtain ⟨v,rfl,hf,hI'⟩:=hh;refine ⟨v,rfl,trivial,p+1,?_,λ j r' hj hjr=>?_,hout' v,hFv v hf,hI'⟩
   ·rcases Nat.lt_or_ge p N with h|h
    ·exact h
    ·exact absurd (hc2 i last p (by omega) (n_ _) hr (by rw [hN];congr 1;omega)) (by omega)
   ·by_cases c:j=i
    ·subst c;rw [hr] at hjr;injection hjr with hjr;rw [updV_same];simp only [Option.isSome_some,true_iff];omega
    ·rw [updV_ne vals v c,hp j r' hj hjr];have:r'≠p:=λ e=>c (hc2 j i p hj (by omega) (by rw [hjr,e]) hr);omega
 ·intro o ho a vals w hG hbase hdep0 hall _;obtain ⟨p,hpN,hp,hout,hF,hI⟩:=hG
  have hdep:∀j∈D last,F j vals (a.eval (.tmp (slotOf ops j)))/\vals j=some (a.eval (.tmp (slotOf ops j))):=λ j hj=>⟨hF j _ (hdep0 j hj).2,(hdep0 j hj).2⟩
  have hge:N<=p:=by
   match N,hN with
   |0,_=>exact Nat.zero_le _
   |r+1,hN =>
    obtain ⟨j,hj,hjr⟩:=hc3 r hN;have:=(hp j r (by omega) hjr).1 (Option.isSome_iff_ne_none.2 (hall j hj));omega
  obtain rfl:p=N:=by omega
  exact hfin o ho a vals w hI hbase hdep hall hF
end
def PX (o:Bool) (w:World) (lo hi n:Nat) (xs:List Tk) (v:EV) (q:Nat):PR->Prop
 |.out=>False
 |.ok x r=>(match o with|true=>GW w lo hi x.gx v|false=>GV w lo hi x.gx v)/\TkEnds r/\q<n/\xs.drop q=r
 |.bad code _=>code≠0/\v=ev0/\q=0
theorem PX.same {o:Bool} {w w':World} {lo hi n:Nat} {xs:List Tk} {v:EV} {q:Nat} {e:PR} (h:PX o w lo hi n xs v q e) (hs:∀g,lo<=g->g<hi->w'.heap[g]?=w.heap[g]?):PX o w' lo hi n xs v q e:=by
 cases e with
 |out=>exact h
 |bad c p=>exact h
 |ok x r =>
  refine ⟨?_,h.2⟩;have h1:=h.1
  cases o with
  |true=>exact GW.same hs h1
  |false=>exact GV.same hs h1
def pv (g:Nat):Value:=.pointer (some ⟨g,0,none⟩)
theorem pv_inj {g g':Nat} (h:some (pv g)=some (pv g')):g=g':=by
 injection h with h;unfold pv at h;injection h with h;injection h with h;injection h with h
def tupX (v:EV) (q:Nat) (E:PR):Value:=.tuple #[v.val,.int .i64 (q:Int),ftP E]
theorem tup_inj {v v':EV} {q q':Nat} {E:PR} (h:some (tupX v q E)=some (tupX v' q' E)):v=v'/\q=q':=by
 injection h with hc;unfold tupX at hc;injection hc with hc;have h0:=congrArg (λ a:Array Value=>a[0]?) hc;have h1:=congrArg (λ a:Array Value=>a[1]?) hc;simp [EV.val] at h0 h1;obtain ⟨e1,e2,e3,e4,⟨e5,e6,e7⟩,e8⟩:=h0;cases v;cases v';simp only at e1 e2 e3 e4 e5 e6 e7 e8;subst e1 e2 e3 e4 e5 e6 e7 e8;exact ⟨rfl,by omega⟩
structure XIv (o:Bool) (w0:World) (n:Nat) (xs:List Tk) (E:PR) (ic a1 a2:Nat) (p:Nat) (vals:Nat->Option Value) (w:World):Prop where
 b:Below w0.heap.size w0 w
 c:1<=p->∃v q lo hi,vals ic=some (tupX v q E)/\w0.heap.size<=lo/\lo<=hi/\hi<=w.heap.size/\PX o w lo hi n xs v q E/\(∀g,vals a1=some (pv g)->g<lo∨hi<=g)/\(∀g,vals a2=some (pv g)->g<lo∨hi<=g)/\(2<=p->∃g,vals a1=some (pv g)/\XpB w g v)
 fa:∀{u},vals a1=some u->∃g,u=pv g/\w0.heap.size<=g/\(p<=1->XpB w g ev0)
 fb:∀{u},vals a2=some u->∃g,u=pv g/\w0.heap.size<=g/\FtB w g (.int .i64 0) (.int .i64 0)
 ne:∀g g',vals a1=some (pv g)->vals a2=some (pv g')->g≠g'
section
variable {o:Bool} {w0 w w':World} {n:Nat} {xs:List Tk} {E:PR} {ic a1 a2 p:Nat} {vals:Nat->Option Value}
theorem XIv.loc {vals':Nat->Option Value} (h:XIv o w0 n xs E ic a1 a2 p vals w) (h1:vals' ic=vals ic) (h2:vals' a1=vals a1) (h3:vals' a2=vals a2):XIv o w0 n xs E ic a1 a2 p vals' w :=
 ⟨h.b,by rw [h1,h2,h3];exact h.c,by rw [h2];exact h.fa,by rw [h3];exact h.fb,by rw [h2,h3];exact h.ne⟩
theorem XIv.zero (w0:World):XIv o w0 n xs E ic a1 a2 0 (λ _=>none) w0.drew :=
 ⟨(b_ _ w0).drew,λ h=>absurd h (by omega),λ h=>(by cases h),λ h=>(by cases h),λ _ _ h=>(by cases h)⟩
theorem XIv.alloc1 (h:XIv o w0 n xs E ic a1 a2 p vals w) (hv:vals a1=none) (d1:ic≠a1) (d2:a2≠a1) :
  XIv o w0 n xs E ic a1 a2 p (updV vals a1 (.pointer (some ⟨w.heap.size,0,none⟩))) (w.alloc (.cells #[.int .i64 0,.int .i64 0,.string ⟨#[]⟩,.int .i64 0,.slice none 0 0,.int .i64 0] 40)):=by
 have hb:Below w.heap.size w (w.alloc (.cells #[.int .i64 0,.int .i64 0,.string ⟨#[]⟩,.int .i64 0,.slice none 0 0,.int .i64 0] 40)):=(b_ _ w).alloc (n_ _) _;refine ⟨h.b.trans (hb.mono h.b.size),λ hp=>?_,λ {u} hu=>?_,λ {u} hu=>?_,λ g g' hg hg'=>?_⟩
 ·obtain ⟨v,q,lo,hi,c1,c2,c3,c4,c5,c6,c7,c8⟩:=h.c hp;refine ⟨v,q,lo,hi,by rw [updV_ne vals _ d1];exact c1,c2,c3,Nat.le_trans c4 hb.size,c5.same (λ g _ h2=>hb.block g (by omega)),λ g hg=>?_,λ g hg=>?_,λ h2=>?_⟩
  ·rw [updV_same] at hg;have:=pv_inj (g:=w.heap.size) hg;omega
  ·rw [updV_ne vals _ d2] at hg;exact c7 g hg
  ·obtain ⟨g,hg,_⟩:=c8 h2;rw [hv] at hg;cases hg
 ·rw [updV_same] at hu;injection hu with hu;exact ⟨w.heap.size,hu.symm,h.b.size,λ _=>XpB.new w ev0⟩
 ·rw [updV_ne vals _ d2] at hu;obtain ⟨g,k1,k2,k3⟩:=h.fb hu;exact ⟨g,k1,k2,k3.below hb⟩
 ·rw [updV_same] at hg;rw [updV_ne vals _ d2] at hg';have e1:=pv_inj (g:=w.heap.size) hg;obtain ⟨k,k1,k2,k3⟩:=h.fb hg';have e2:=pv_inj (congrArg some k1);have:=k3.lt;omega
theorem XIv.alloc2 (h:XIv o w0 n xs E ic a1 a2 p vals w) (_hv:vals a2=none) (d1:ic≠a2) (d2:a1≠a2) :
  XIv o w0 n xs E ic a1 a2 p (updV vals a2 (.pointer (some ⟨w.heap.size,0,none⟩))) (w.alloc (.cells #[.int .i64 0,.int .i64 0] 59)):=by
 have hb:Below w.heap.size w (w.alloc (.cells #[.int .i64 0,.int .i64 0] 59)):=(b_ _ w).alloc (n_ _) _;refine ⟨h.b.trans (hb.mono h.b.size),λ hp=>?_,λ {u} hu=>?_,λ {u} hu=>?_,λ g g' hg hg'=>?_⟩
 ·obtain ⟨v,q,lo,hi,c1,c2,c3,c4,c5,c6,c7,c8⟩:=h.c hp;refine ⟨v,q,lo,hi,by rw [updV_ne vals _ d1];exact c1,c2,c3,Nat.le_trans c4 hb.size,c5.same (λ g _ h2=>hb.block g (by omega)),λ g hg=>?_,λ g hg=>?_,λ h2=>?_⟩
  ·rw [updV_ne vals _ d2] at hg;exact c6 g hg
  ·rw [updV_same] at hg;have:=pv_inj (g:=w.heap.size) hg;omega
  ·obtain ⟨g,hg,hx⟩:=c8 h2;exact ⟨g,by rw [updV_ne vals _ d2];exact hg,hx.below hb⟩
 ·rw [updV_ne vals _ d2] at hu;obtain ⟨g,k1,k2,k3⟩:=h.fa hu;exact ⟨g,k1,k2,λ hp=>(k3 hp).below hb⟩
 ·rw [updV_same] at hu;injection hu with hu;exact ⟨w.heap.size,hu.symm,h.b.size,FtB.new w _ _⟩
 ·rw [updV_same] at hg';rw [updV_ne vals _ d2] at hg;have e1:=pv_inj (g:=w.heap.size) hg';obtain ⟨k,k1,k2,k3⟩:=h.fa hg;have e2:=pv_inj (congrArg some k1)
  by_cases hp:p<=1
  ·have:=(k3 hp).lt;omega
  ·obtain ⟨_,_,_,_,_,_,_,_,_,_,_,c8⟩:=h.c (by omega);obtain ⟨g2,hg2,hx⟩:=c8 (by omega);rw [hg] at hg2;have e3:=pv_inj hg2;have:=hx.lt;omega
theorem XIv.call (h:XIv o w0 n xs E ic a1 a2 0 vals w) {v:EV} {q:Nat} (hx:PX o w' w.heap.size w'.heap.size n xs v q E) (hb:Below w.heap.size w w') (d1:a1≠ic) (d2:a2≠ic):XIv o w0 n xs E ic a1 a2 1 (updV vals ic (tupX v q E)) w':=by
 refine ⟨h.b.trans (hb.mono h.b.size),λ _=>⟨v,q,w.heap.size,w'.heap.size,updV_same _ _ _,h.b.size,hb.size,n_ _,hx,λ g hg=>?_,λ g hg=>?_,λ h2=>absurd h2 (by omega)⟩,λ {u} hu=>?_,λ {u} hu=>?_,λ g g' hg hg'=>?_⟩
 ·rw [updV_ne vals _ d1] at hg;obtain ⟨k,k1,k2,k3⟩:=h.fa hg;have e2:=pv_inj (congrArg some k1);have:=(k3 (by omega)).lt;omega
 ·rw [updV_ne vals _ d2] at hg;obtain ⟨k,k1,k2,k3⟩:=h.fb hg;have e2:=pv_inj (congrArg some k1);have:=k3.lt;omega
 ·rw [updV_ne vals _ d1] at hu;obtain ⟨g,k1,k2,k3⟩:=h.fa hu;exact ⟨g,k1,k2,λ _=>(k3 (by omega)).below hb⟩
 ·rw [updV_ne vals _ d2] at hu;obtain ⟨g,k1,k2,k3⟩:=h.fb hu;exact ⟨g,k1,k2,k3.below hb⟩
 ·rw [updV_ne vals _ d1] at hg;rw [updV_ne vals _ d2] at hg';exact h.ne g g' hg hg'
theorem six_below {B g:Nat} {u w:World} (h:Below B u w) (hB:B<=g) (v:EV):Below B u (six w g v):=(((((h.setCell (p:=⟨g,0,none⟩) hB _).setCell (p:=⟨g,1,none⟩) hB _).setCell (p:=⟨g,2,none⟩) hB _).setCell (p:=⟨g,3,none⟩) hB _).setCell (p:=⟨g,4,none⟩) hB _).setCell (p:=⟨g,5,none⟩) hB _
theorem XIv.store1 (h:XIv o w0 n xs E ic a1 a2 1 vals w) {v:EV} {q g s:Nat} {u:Value} (hc:vals ic=some (tupX v q E)) (hg:vals a1=some (pv g)) (d0:ic≠s) (d1:a1≠s) (d2:a2≠s):XIv o w0 n xs E ic a1 a2 2 (updV vals s u) (six w g v):=by
 obtain ⟨g',e1,b1,x1⟩:=h.fa hg;obtain rfl:=pv_inj (congrArg some e1);have hx:=x1 (n_ _);obtain ⟨v',q',lo,hi,c1,c2,c3,c4,c5,c6,c7,_⟩:=h.c (n_ _);have hs:=six_size w g v;have hm:=six_mv w g v;refine ⟨six_below h.b b1 v,λ _=>⟨v',q',lo,hi,by rw [updV_ne vals _ d0];exact c1,c2,c3,by rw [hs];exact c4,c5.same (λ k k1 k2=>hm.block (by omega) (λ e=>by have:=c6 g hg;omega)),λ k hk=>?_,λ k hk=>?_,λ _=>⟨g,by rw [updV_ne vals _ d1];exact hg,?_⟩⟩,λ {u'} hu=>?_,λ {u'} hu=>?_,λ k k' hk hk'=>?_⟩
 ·rw [updV_ne vals _ d1] at hk;exact c6 k hk
 ·rw [updV_ne vals _ d2] at hk;exact c7 k hk
 ·have:v'=v:=by
   rw [c1] at hc;exact (tup_inj hc).1
  rw [this];exact hx.all v
 ·rw [updV_ne vals _ d1] at hu;obtain ⟨k,k1,k2,_⟩:=h.fa hu;exact ⟨k,k1,k2,λ hp=>absurd hp (by omega)⟩
 ·rw [updV_ne vals _ d2] at hu;obtain ⟨k,k1,k2,k3⟩:=h.fb hu;refine ⟨k,k1,k2,k3.mv hm (λ e=>?_)⟩;rw [k1] at hu;exact h.ne g k hg hu e.symm
 ·rw [updV_ne vals _ d1] at hk;rw [updV_ne vals _ d2] at hk';exact h.ne k k' hk hk'
end
def XFin (o:Bool) (w0:World) (n:Nat) (xs:List Tk) (E:PR) (wr:World) (v:EV) (q g1 g2:Nat):Prop :=
 XpB wr g1 v/\FtB wr g2 (.int .i64 E.code) (.int .i64 E.pt)/\g1≠g2/\w0.heap.size<=g1/\w0.heap.size<=g2/\Below w0.heap.size w0 wr/\∃lo hi,w0.heap.size<=lo/\lo<=hi/\hi<=wr.heap.size/\PX o wr lo hi n xs v q E/\(g1<lo∨hi<=g1)/\(g2<lo∨hi<=g2)
def XDone (o:Bool) (w0:World) (n:Nat) (xs:List Tk) (E:PR) (a1 a2 as_:Nat) (vals:Nat->Option Value) (wr:World):Prop :=
 ∃(v:EV) (q g1 g2:Nat),vals a1=some (pv g1)/\vals a2=some (pv g2)/\vals as_=some (.int .i64 (q:Int))/\Hid (XFin o w0 n xs E wr v q g1 g2)
theorem XIv.fin {o:Bool} {w0 w:World} {n:Nat} {xs:List Tk} {E:PR} {ic a1 a2:Nat} {vals:Nat->Option Value} (h:XIv o w0 n xs E ic a1 a2 2 vals w) {g2:Nat} (hg2:vals a2=some (pv g2)) {v:EV} {q:Nat} (hv:vals ic=some (tupX v q E)) :
  ∃g1,vals a1=some (pv g1)/\XFin o w0 n xs E (two w g2 E.code E.pt) v q g1 g2:=by
 obtain ⟨v',q',lo,hi,c1,c2,c3,c4,c5,c6,c7,c8⟩:=h.c (by omega);obtain ⟨g1,hg1,hx⟩:=c8 (n_ _);rw [hv] at c1;obtain ⟨rfl,rfl⟩:=tup_inj c1;obtain ⟨k1,e1,b1,_⟩:=h.fa hg1;obtain rfl:=pv_inj (congrArg some e1);obtain ⟨k2,e2,b2,f2⟩:=h.fb hg2;obtain rfl:=pv_inj (congrArg some e2);have hne:=h.ne g1 g2 hg1 hg2;have hm:=two_mv w g2 E.code E.pt;refine ⟨g1,hg1,hx.mv hm hne,f2.two _ _,hne,b1,b2,below_two h.b b2 _ _,lo,hi,c2,c3,by rw [two_sz];exact c4,c5.same (λ k k1 k2=>hm.block (by omega) (λ e=>by have:=c7 g2 hg2;omega)),c6 g1 hg1,c7 g2 hg2⟩
theorem ev_get2 {a:Act} {k:Nat} {v:Value} (h:a.eval (.tmp k)=v):a.tmps[k]?.getD undef=v:=by
 rw [<-h];show _=a.tmps.getD k undef;rw [Array.getD_eq_getD_getElem?]
theorem ev_get' {a:Act} {k:Nat} {v:Value} (h:a.tmps[k]?.getD undef=v):a.eval (.tmp k)=v:=by
 rw [<-h];show a.tmps.getD k undef=_;rw [Array.getD_eq_getD_getElem?]
def gxO:Option Ex->GX
 |none=>.mk 0 0 [] 0 [] 0
 |some x=>x.gx
def dvEx (o:Bool) (y:Option Ex):List DV:=[.v (.int .i64 (gxO y).kind),.v (.int .i64 (gxO y).num),.v (txV (gxO y).name),.v (.int .i64 (gxO y).op),.sub o (gxO y).subs,.v (.int .i64 (gxO y).p)]
theorem Rep.ex {w:World} {base lo hi:Nat} {y:Option Ex} {v:EV} (h:GW w lo hi (gxO y) v) (hb:base<=lo) (h1:lo<=hi) (h2:hi<=w.heap.size):Rep w base (dvEx true y) v.cells:=by
 unfold dvEx
 obtain ⟨gx,hgx⟩:∃gx,gxO y=gx:=⟨_,rfl⟩
 rw [hgx] at h ⊢;obtain ⟨k,n,s,o,l,p⟩:=gx;unfold GW at h;obtain ⟨⟨a1,a2,a3,a4,a5,a6,a7,a8⟩,h3⟩:=h;refine ⟨List.range' lo (hi-lo),?_,List.nodup_range',λ g hg=>by have:=mem_range' hg;omega⟩
 have e3:txV s=.string v.name:=by rw [<-a3];exact txV_data v.name
 show DvsAt w [.v (.int .i64 k),.v (.int .i64 n),.v (txV s),.v (.int .i64 o),.sub true l,.v (.int .i64 p)] _ _;rw [e3,<-a1,<-a2,<-a4,<-a5];refine DvsAt.v rfl (DvsAt.v rfl (DvsAt.v rfl (DvsAt.v rfl ?_)))
 have hn:List.range' lo (hi-lo)=List.range' lo (hi-lo)++[]:=by simp
 rw [hn];refine DvsAt.cons ?_ (DvsAt.v rfl (DvsAt.nil w));unfold DvAt;exact ⟨lo,hi,⟨v.A,v.cap,by rw [a6],by omega,a8,h1,h2,h3⟩,rfl⟩
theorem GW.none (w:World) (lo hi:Nat):GW w lo hi (gxO none) ev0:=GW.leaf w lo hi 0 0 0 0 ⟨#[]⟩
def sxF (b:Nat) (K:Kx) (r:Pv) (E:PR) (i:Nat) (vals:Nat->Option Value) (u:Value):Prop :=  match i with|0=>u=Value.pointer (some ⟨b,0,none⟩)|1=>u=Value.pointer (some ⟨b,0,none⟩)|2=>u=Value.pointer (some ⟨b,0,none⟩)|3=>u=Value.pointer (some ⟨b,0,none⟩)|4=>u=Value.slice K.A K.n K.c|5=>u=Value.pointer (some ⟨b,0,none⟩)|6=>u=Value.pointer (some ⟨b,0,none⟩)|7=>u=Value.pointer (some ⟨b,0,none⟩)|8=>u=Value.pointer (some ⟨b,1,none⟩)|9=>u=Value.int .i64 (r.q:Int)|10=>∃(v:EV) (q:Nat),u=.tuple #[v.val,.int .i64 (q:Int),ftP E]|11=>∃(v:EV) (q:Nat),u=.tuple #[v.val,.int .i64 (q:Int),ftP E]/\vals 10=some (.tuple #[v.val,.int .i64 (q:Int),ftP E])|12=>∃(v:EV) (q:Nat),vals 10=some (.tuple #[v.val,.int .i64 (q:Int),ftP E])/\u=v.val|13=>∃(v:EV) (q:Nat),vals 10=some (.tuple #[v.val,.int .i64 (q:Int),ftP E])/\u=.int .i64 (q:Int)|14=>∃(v:EV) (q:Nat),vals 10=some (.tuple #[v.val,.int .i64 (q:Int),ftP E])/\u=ftP E|18=>∃(v:EV) (q:Nat),vals 10=some (.tuple #[v.val,.int .i64 (q:Int),ftP E])/\u=.int .i64 (q:Int)|_=>True
theorem sexpr_any (w:World) (b:Nat) (K:Kx) (V D:Int) (m:Rs Unit) (h:PS w b K V D m) :
  Calls Tryz.prog 189 #[.pointer (some ⟨b,0,none⟩)] w λ e w'=>∃(y:Option Ex) (v:EV),e=.returned v.val/\Rep w' w.heap.size (dvEx true y) v.cells/\(∀x s,m.go exprR=.ok x s->y=some x)/\PS w' b K V D (m.go exprR).void/\Mv b w w':=by
 obtain ⟨g0,hg0⟩:∃g,g=w.heap.size:=⟨_,rfl⟩
 obtain ⟨W0,hW0⟩:∃W0,W0=w.alloc (.cells #[.int .i64 0,.int .i64 0,.string ⟨#[]⟩,.int .i64 0,.slice none 0 0,.int .i64 0] 40):=⟨_,rfl⟩
 have HX:Hid (XpB W0 g0 ev0):=by rw [hW0,hg0];exact XpB.new w ev0
 have HB0:Hid (Below w.heap.size w W0):=by rw [hW0];exact (b_ _ w).alloc (n_ _) _
 have hbw:=h.blt
 have hg0w:w.heap.size<=g0:=by omega
 have hg0b:g0≠b:=by omega
 have hg0W:g0<W0.heap.size:=HX.out.lt;have HP:=h_ h;have HP0:=h_ (h.below HB0.out);have HF:=h_ (sfailed_any W0 b K V D m HP0.out);have a0:=HX.out.c0;have a1:=HX.out.c1;have a2:=HX.out.c2;have a3:=HX.out.c3;have a4:=HX.out.c4;have a5:=HX.out.c5;have f0:=HX.out.fr 0;have f1:=HX.out.fr 1;have f2:=HX.out.fr 2;have f3:=HX.out.fr 3;have f4:=HX.out.fr 4;have f5:=HX.out.fr 5;clear h
 cases m with
 |out=>exact absurd rfl HP.out.notOut
 |bad c p =>
  have hw:(Rs.bad c p:Rs Unit).wrong?=true:=rfl;rw [hw] at HF;clear hw;go_enter Tryz.func189,Tryz.ntmps189;go_upto_region 1 with fail;rw [<-hW0,<-hg0];clear hW0 hg0;go_wp2_with fail;refine HF.out.mono ?_;rintro e w1 ⟨rfl,rfl⟩;go_wp2_with fail;have HS:=HX.out.all ev0;have HM:=six_put (b:=b) (Mv.of b HB0.out) hg0w ev0;have HPP:=HP0.out.ch (Ch.of_mv (six_mv W0 g0 ev0)) (λ k e=>by have e':k=g0:=e;omega);unfold six at HS HM HPP;dsimp only [ev0] at HS HM HPP;refine bodyPost_ret (XpB.res (v:=ev0) rfl _ rfl HS) rfl ?_;exact ⟨none,ev0,rfl,Rep.ex (GW.none _ w.heap.size w.heap.size) (n_ _) (n_ _) HM.size,λ x s e=>(by cases e),HPP,HM⟩
 |ok x s =>
  have hw:(Rs.ok x s:Rs Unit).wrong?=false:=rfl;rw [hw] at HF;clear hw;obtain ⟨r,hp1,hq1,hv1,hd1,hm1⟩:=HP0.out.out;have HPB:=h_ hp1;have HR1:=h_ (And.intro hq1 (And.intro hv1 hd1));have HM1:=h_ hm1
  obtain ⟨E,hE⟩:∃E,Pf 0 0 s.ts=E:=⟨_,rfl⟩
  have HEE:=h_ hE
  have HPQ:Hid (∀W,Below W0.heap.size W0 W->Calls Tryz.prog 222 #[.slice K.A K.n K.c,.int .i64 (r.q:Int)] W λ e w'=>∃(v:EV) (q:Nat),e=.returned (tupX v q E)/\PX true w' W.heap.size w'.heap.size K.n K.xs v q E/\Below W.heap.size W w'):=λ W hb=>by
   have hmm:=HM1.out;have:=parseq_any W K.n K.c r.q K.A K.xs s.ts (HP0.out.at_.below hb) HP0.out.ok.ends hmm.2.1 hmm.2.2.1 HR1.out.1 (Nat.le_trans HP0.out.ok.n (by decide)) HP0.out.ok.lex (HP0.out.vs.below hb);rw [HEE.out] at this;refine this.mono ?_;rintro e w' ⟨v,q,rfl,hpw,hb'⟩;refine ⟨v,q,rfl,?_,hb'⟩
   cases E with
   |out=>exact hpw
   |bad c p=>exact hpw
   |ok x r=>exact hpw
  clear hp1 hq1 hv1 hd1 hm1 hE;go_enter Tryz.func189,Tryz.ntmps189;go_upto_region 1 with fail;rw [<-hW0,<-hg0];clear hW0 hg0;go_wp2_with fail;refine HF.out.mono ?_;rintro e w1 ⟨rfl,rfl⟩;clear HF a0 a1 a2 a3 a4 a5 f0 f1 f2 f3 f4 f5;go_upto_region 3 with fail
  go_cut [3,4,5] from 11 to 25 (λ s3 s4 s5 wr=>∃(v:EV) (q g1 g2:Nat),s3=.pointer (some ⟨g1,0,none⟩)/\s4=.int .i64 (q:Int)/\s5=.pointer (some ⟨g2,0,none⟩)/\Hid (XFin true W0 K.n K.xs E wr v q g1 g2))
  case first =>
   refine region_mix _ _ _ (by kernel_rfl) 19 rfl (by kernel_rfl) (by kernel_rfl) (λ i=>match i with|1=>[0]|2=>[1]|3=>[2]|4=>[3]|6=>[5]|7=>[6]|8=>[7]|9=>[8]|10=>[4,9]|11=>[10]|12=>[11]|13=>[11]|14=>[11]|17=>[15,12,10]|18=>[13]|19=>[16,14]|_=>[]) (by kernel_rfl) (by kernel_rfl)
    (λ i=>match i with|10=>some 0|17=>some 1|19=>some 2|_=>none) (λ i=>i==15 || i==16) 2 rfl (by kernel_rfl)
    (sxF b K r E) ?_ (λ p vals W=>XIv true W0 K.n K.xs E 10 15 16 p vals W)
    (XDone true W0 K.n K.xs E 15 16 18)
    (λ p vals vals' W hl hI=>hI.loc (hl _ (.inl rfl)) (hl _ (.inr rfl)) (hl _ (.inr rfl))) (XIv.zero W0) ?_ ?_ ?_ ?_ ?_
   ·intro j vals vals' u hext hF
    have hk:∀z:Value,vals 10=some z->vals' 10=some z:=λ z hz=>by rw [hext 10 (by rw [hz];simp)];exact hz
    unfold sxF at hF ⊢
    split at hF
    ·exact hF
    ·exact hF
    ·exact hF
    ·exact hF
    ·exact hF
    ·exact hF
    ·exact hF
    ·exact hF
    ·exact hF
    ·exact hF
    ·exact hF
    ·obtain ⟨v,q,h1,h2⟩:=hF;exact ⟨v,q,h1,hk _ h2⟩
    ·obtain ⟨v,q,h1,h2⟩:=hF;exact ⟨v,q,hk _ h1,h2⟩
    ·obtain ⟨v,q,h1,h2⟩:=hF;exact ⟨v,q,hk _ h1,h2⟩
    ·obtain ⟨v,q,h1,h2⟩:=hF;exact ⟨v,q,hk _ h1,h2⟩
    ·obtain ⟨v,q,h1,h2⟩:=hF;exact ⟨v,q,hk _ h1,h2⟩
    ·trivial
   ·intro i o hi hrk hal ho a vals w p hpN hI hbase hdep
    have hi':i=0∨i=1∨i=2∨i=3∨i=4∨i=5∨i=6∨i=7∨i=8∨i=9∨i=10∨i=11∨i=12∨i=13∨i=14∨i=15∨i=16∨i=17∨i=18:=by omega
    rcases hi' with rfl|rfl|rfl|rfl|rfl|rfl|rfl|rfl|rfl|rfl|rfl|rfl|rfl|rfl|rfl|rfl|rfl|rfl|rfl
    ·have hp:a.tmps[0]?.getD undef=Value.pointer (some ⟨b,0,none⟩):=ev_get2 (hbase 0 (by kernel_rfl));simp only [t_,z_,j_] at ho;subst ho;unfold Oper.wp;go_simp;exact ⟨_,rfl,rfl,rfl⟩
    ·have h0:a.tmps[12]?.getD undef=Value.pointer (some ⟨b,0,none⟩):=ev_get2 (show a.eval (.tmp 12)=Value.pointer (some ⟨b,0,none⟩) from (hdep 0 (by simp)).1);simp only [t_,s_,z_,j_] at ho;subst ho;unfold Oper.wp;go_simp;exact ⟨_,rfl,rfl,rfl⟩
    ·have h1:a.tmps[13]?.getD undef=Value.pointer (some ⟨b,0,none⟩):=ev_get2 (show a.eval (.tmp 13)=Value.pointer (some ⟨b,0,none⟩) from (hdep 1 (by simp)).1);simp only [t_,s_,z_,j_] at ho;subst ho;unfold Oper.wp;go_simp;exact ⟨_,rfl,rfl,rfl⟩
    ·have h2:a.tmps[14]?.getD undef=Value.pointer (some ⟨b,0,none⟩):=ev_get2 (show a.eval (.tmp 14)=Value.pointer (some ⟨b,0,none⟩) from (hdep 2 (by simp)).1);simp only [t_,s_,z_,j_] at ho;subst ho;unfold Oper.wp;go_simp;exact ⟨_,rfl,rfl,rfl⟩
    ·have h3:a.tmps[15]?.getD undef=Value.pointer (some ⟨b,0,none⟩):=ev_get2 (show a.eval (.tmp 15)=Value.pointer (some ⟨b,0,none⟩) from (hdep 3 (by simp)).1);have y0:=(HPB.out.below hI.1).c0;simp only [t_,s_,z_,j_] at ho;subst ho;unfold Oper.wp;go_simp;exact ⟨_,rfl,rfl,rfl⟩
    ·have hp:a.tmps[0]?.getD undef=Value.pointer (some ⟨b,0,none⟩):=ev_get2 (hbase 0 (by kernel_rfl));simp only [t_,s_,z_,j_] at ho;subst ho;unfold Oper.wp;go_simp;exact ⟨_,rfl,rfl,rfl⟩
    ·have h5:a.tmps[17]?.getD undef=Value.pointer (some ⟨b,0,none⟩):=ev_get2 (show a.eval (.tmp 17)=Value.pointer (some ⟨b,0,none⟩) from (hdep 5 (by simp)).1);simp only [t_,s_,z_,j_] at ho;subst ho;unfold Oper.wp;go_simp;exact ⟨_,rfl,rfl,rfl⟩
    ·have h6:a.tmps[18]?.getD undef=Value.pointer (some ⟨b,0,none⟩):=ev_get2 (show a.eval (.tmp 18)=Value.pointer (some ⟨b,0,none⟩) from (hdep 6 (by simp)).1);simp only [t_,s_,z_,j_] at ho;subst ho;unfold Oper.wp;go_simp;exact ⟨_,rfl,rfl,rfl⟩
    ·have h7:a.tmps[19]?.getD undef=Value.pointer (some ⟨b,0,none⟩):=ev_get2 (show a.eval (.tmp 19)=Value.pointer (some ⟨b,0,none⟩) from (hdep 7 (by simp)).1);simp only [t_,s_,z_,j_] at ho;subst ho;unfold Oper.wp;go_simp;exact ⟨_,rfl,rfl,rfl⟩
    ·have h8:a.tmps[20]?.getD undef=Value.pointer (some ⟨b,1,none⟩):=ev_get2 (show a.eval (.tmp 20)=Value.pointer (some ⟨b,1,none⟩) from (hdep 8 (by simp)).1);have y0:=(HPB.out.below hI.1).c1;simp only [t_,s_,z_,j_] at ho;subst ho;unfold Oper.wp;go_simp;exact ⟨_,rfl,rfl,rfl⟩
    ·cases hrk
    ·obtain ⟨v,q,h10⟩:=(hdep 10 (by simp)).1;replace h10:a.tmps[22]?.getD undef=_:=ev_get2 h10;have hv:=(hdep 10 (by simp)).2;simp only [t_,s_,z_,j_] at ho;subst ho;unfold Oper.wp;go_simp;exact ⟨_,rfl,⟨v,q,rfl,by rw [hv];exact congrArg some (ev_get' h10)⟩,rfl⟩
    ·obtain ⟨v,q,h11,hv⟩:=(hdep 11 (by simp)).1;replace h11:a.tmps[11]?.getD undef=_:=ev_get2 h11;simp only [t_,s_,z_,j_] at ho;subst ho;unfold Oper.wp;go_simp;exact ⟨_,rfl,⟨v,q,hv,rfl⟩,rfl⟩
    ·obtain ⟨v,q,h11,hv⟩:=(hdep 11 (by simp)).1;replace h11:a.tmps[11]?.getD undef=_:=ev_get2 h11;simp only [t_,s_,z_,j_] at ho;subst ho;unfold Oper.wp;go_simp;exact ⟨_,rfl,⟨v,q,hv,rfl⟩,rfl⟩
    ·obtain ⟨v,q,h11,hv⟩:=(hdep 11 (by simp)).1;replace h11:a.tmps[11]?.getD undef=_:=ev_get2 h11;simp only [t_,s_,z_,j_] at ho;subst ho;unfold Oper.wp;go_simp;exact ⟨_,rfl,⟨v,q,hv,rfl⟩,rfl⟩
    ·cases hal
    ·cases hal
    ·cases hrk
    ·obtain ⟨v,q,hv,h13⟩:=(hdep 13 (by simp)).1;replace h13:a.tmps[24]?.getD undef=_:=ev_get2 h13;simp only [t_,s_,z_,j_] at ho;subst ho;unfold Oper.wp;go_simp;exact ⟨_,rfl,⟨v,q,hv,rfl⟩,rfl⟩
   ·intro i o hi hrk hal ho a vals w p hpN hI hv hcl
    have hi':i=0∨i=1∨i=2∨i=3∨i=4∨i=5∨i=6∨i=7∨i=8∨i=9∨i=10∨i=11∨i=12∨i=13∨i=14∨i=15∨i=16∨i=17∨i=18:=by omega
    rcases hi' with rfl|rfl|rfl|rfl|rfl|rfl|rfl|rfl|rfl|rfl|rfl|rfl|rfl|rfl|rfl|rfl|rfl|rfl|rfl
    ·cases hal
    ·cases hal
    ·cases hal
    ·cases hal
    ·cases hal
    ·cases hal
    ·cases hal
    ·cases hal
    ·cases hal
    ·cases hal
    ·cases hrk
    ·cases hal
    ·cases hal
    ·cases hal
    ·cases hal
    ·simp only [t_,s_,z_,j_] at ho;subst ho;unfold Oper.wp;go_simp;exact ⟨_,rfl,trivial,hI.alloc1 hv (by decide) (by decide)⟩
    ·simp only [t_,s_,z_,j_] at ho;subst ho;unfold Oper.wp;go_simp;exact ⟨_,rfl,trivial,hI.alloc2 hv (by decide) (by decide)⟩
    ·cases hrk
    ·cases hal
   ·intro i o r' hi hrk ho a vals w hI hbase hdep hv hcl
    have hi':i=0∨i=1∨i=2∨i=3∨i=4∨i=5∨i=6∨i=7∨i=8∨i=9∨i=10∨i=11∨i=12∨i=13∨i=14∨i=15∨i=16∨i=17∨i=18:=by omega
    rcases hi' with rfl|rfl|rfl|rfl|rfl|rfl|rfl|rfl|rfl|rfl|rfl|rfl|rfl|rfl|rfl|rfl|rfl|rfl|rfl
    ·cases hrk
    ·cases hrk
    ·cases hrk
    ·cases hrk
    ·cases hrk
    ·cases hrk
    ·cases hrk
    ·cases hrk
    ·cases hrk
    ·cases hrk
    ·obtain rfl:r'=0:=by injection hrk with hrk;exact hrk.symm
     have h4:a.tmps[16]?.getD undef=Value.slice K.A K.n K.c:=ev_get2 (show a.eval (.tmp 16)=Value.slice K.A K.n K.c from (hdep 4 (by simp)).1);have h9:a.tmps[21]?.getD undef=Value.int .i64 (r.q:Int):=ev_get2 (show a.eval (.tmp 21)=Value.int .i64 (r.q:Int) from (hdep 9 (by simp)).1);have HC:=HPQ.out w hI.1;simp only [t_,s_,z_,j_] at ho;subst ho;unfold Oper.wp;go_simp;refine HC.mono ?_;rintro e w' ⟨v,q,rfl,hpx,hb⟩;exact ⟨_,rfl,⟨v,q,rfl⟩,hI.call hpx hb (by decide) (by decide)⟩
    ·cases hrk
    ·cases hrk
    ·cases hrk
    ·cases hrk
    ·cases hrk
    ·cases hrk
    ·obtain rfl:r'=1:=by injection hrk with hrk;exact hrk.symm
     obtain ⟨v,q,hv10,h12⟩:=(hdep 12 (by simp)).1;replace h12:a.tmps[23]?.getD undef=v.val:=ev_get2 h12;have hva:=(hdep 15 (by simp)).2;obtain ⟨g1,hg1,hw1,hx1⟩:=hI.fa hva;replace hg1:a.tmps[3]?.getD undef=.pointer (some ⟨g1,0,none⟩):=ev_get2 hg1;have hvv:v.val=.agg #[.int .i64 v.kind,.int .i64 v.num,.string v.name,.int .i64 v.op,.slice v.A v.len v.cap,.int .i64 v.p]:=rfl;rw [hvv] at h12;have hxx:=hx1 (n_ _);have c0:=hxx.c0;have c1:=hxx.c1;have c2:=hxx.c2;have c3:=hxx.c3;have c4:=hxx.c4;have c5:=hxx.c5;have f0:=hxx.fr 0;have f1:=hxx.fr 1;have f2:=hxx.fr 2;have f3:=hxx.fr 3;have f4:=hxx.fr 4;have f5:=hxx.fr 5;simp only [t_,s_,z_,j_] at ho;subst ho;unfold Oper.wp;go_simp;exact ⟨.tuple #[],rfl,trivial,hI.store1 hv10 (by rw [hva];exact congrArg some (ev_get' hg1)) (by decide) (by decide) (by decide)⟩
    ·cases hrk
   ·intro o ho a vals w hI hbase hdep hall hF;have hva:=(hdep 16 (by simp)).2;obtain ⟨g2,hg2,hw2,hf2⟩:=hI.fb hva;obtain ⟨v,q,hv10,h14⟩:=(hdep 14 (by simp)).1
    have hva':vals 16=some (pv g2):=by rw [hva,hg2]
    obtain ⟨g1,hg1,hfin⟩:=hI.fin hva' hv10;replace h14:a.tmps[25]?.getD undef=_:=ev_get2 h14;replace hg2:a.tmps[5]?.getD undef=_:=ev_get2 hg2;unfold pv at hg2;unfold ftP ftV at h14;have hF18:=λ u hu=>hF 18 u hu;have k0:=hf2.c0;have k1:=hf2.c1;have j0:=hf2.fr 0;have j1:=hf2.fr 1
    obtain ⟨c,hc⟩:∃c,E.code=c:=⟨_,rfl⟩
    obtain ⟨pp,hpp⟩:∃pp,E.pt=pp:=⟨_,rfl⟩
    rw [hc,hpp] at h14 hfin;clear hc hpp;simp only [t_,s_,z_,j_] at ho;subst ho;unfold Oper.wp;go_simp;refine ⟨.tuple #[],rfl,λ vals' hv'=>?_⟩;obtain ⟨u,hu⟩:=x_ (Option.isSome_iff_ne_none.2 (hall 18 (by omega)));obtain ⟨v',q',hv2,rfl⟩:=hF18 u hu;rw [hv10] at hv2;obtain ⟨rfl,rfl⟩:=tup_inj (E:=E) hv2;exact ⟨v,q,g1,g2,by rw [hv' 15 (by omega)];exact hg1,by rw [hv' 16 (by omega)];exact hva',by rw [hv' 18 (by omega)];exact hu,h_ hfin⟩
   ·intro vals W hF hall;obtain ⟨v,q,g1,g2,h15,h16,h18,hfin⟩:=hF;unfold pv at h15 h16;obtain ⟨v0,h0⟩:=x_ (hall 0 (by omega));obtain ⟨v1,h1⟩:=x_ (hall 1 (by omega));obtain ⟨v2,h2⟩:=x_ (hall 2 (by omega));obtain ⟨v3,h3⟩:=x_ (hall 3 (by omega));obtain ⟨v4,h4⟩:=x_ (hall 4 (by omega));obtain ⟨v5,h5⟩:=x_ (hall 5 (by omega));obtain ⟨v6,h6⟩:=x_ (hall 6 (by omega));obtain ⟨v7,h7⟩:=x_ (hall 7 (by omega));obtain ⟨v8,h8⟩:=x_ (hall 8 (by omega));obtain ⟨v9,h9⟩:=x_ (hall 9 (by omega));obtain ⟨v10,h10⟩:=x_ (hall 10 (by omega));obtain ⟨v11,h11⟩:=x_ (hall 11 (by omega));obtain ⟨v12,h12⟩:=x_ (hall 12 (by omega));obtain ⟨v13,h13⟩:=x_ (hall 13 (by omega));obtain ⟨v14,h14⟩:=x_ (hall 14 (by omega));obtain ⟨v17,h17⟩:=x_ (hall 17 (by omega));obtain ⟨v19,h19⟩:=x_ (hall 19 (by omega));simp only [puts,put1,show List.range (19+1)=[0,1,2,3,4,5,6,7,8,9,10,11,12,13,14,15,16,17,18,19] from rfl,List.foldl_cons,List.foldl_nil,h0,h1,h2,h3,h4,h5,h6,h7,h8,h9,h10,h11,h12,h13,h14,h15,h16,h17,h18,h19,t_,s_,z_,Act.put,u_,v_,k_];clear h0 h1 h2 h3 h4 h5 h6 h7 h8 h9 h10 h11 h12 h13 h14 h15 h16 h17 h18 h19 hall;go_wp2_with fail
    go_meet
    exact ⟨v,q,g1,g2,rfl,rfl,rfl,hfin⟩
  case rest =>
  obtain ⟨v,q,g1,g2,rfl,rfl,rfl,HFI⟩:=hcut;obtain ⟨hx1,hf2,hg12,hg1w,hg2w,hbr,lo,hi,hlo,hlh,hhi,hpx,hl1,hl2⟩:=HFI.out;have HX1:=h_ hx1;have HF2:=h_ hf2;have HBR:=h_ hbr;have HPX:=h_ hpx;have HXR:=h_ (HX.out.below hbr);have HPR:=h_ (HP0.out.below hbr);have HPC:=h_ (HPB.out.below hbr);have HMR:Hid (Mv b w wc):=Mv.of b (HB0.out.trans (hbr.mono HB0.out.size))
  have hg1b:g1≠b:=by omega
  have hg2b:g2≠b:=by omega
  have hg01:g0≠g1:=by omega
  have hg02:g0≠g2:=by omega
  have n1:¬g1=g0:=by omega
  have n2:¬g2=g0:=by omega
  have n3:¬b=g0:=by omega
  have n4:¬g1=b:=by omega
  have n5:¬g0=b:=by omega
  have n6:¬g2=b:=by omega
  have a0:=HXR.out.c0;have a1:=HXR.out.c1;have a2:=HXR.out.c2;have a3:=HXR.out.c3;have a4:=HXR.out.c4;have a5:=HXR.out.c5;have f0:=HXR.out.fr 0;have f1:=HXR.out.fr 1;have f2:=HXR.out.fr 2;have f3:=HXR.out.fr 3;have f4:=HXR.out.fr 4;have f5:=HXR.out.fr 5;have k0:=HF2.out.c0;have k1:=HF2.out.c1;have z0:=HX1.out.c0;have z1:=HX1.out.c1;have z2:=HX1.out.c2;have z3:=HX1.out.c3;have z4:=HX1.out.c4;have z5:=HX1.out.c5;have r1:=HPC.out.c1;have r2:=HPC.out.c2;have r3:=HPC.out.c3;have e1:=HPC.out.fr 1;have e2:=HPC.out.fr 2;have e3:=HPC.out.fr 3;have hg0wr:g0<wc.heap.size:=HXR.out.lt
  cases E with
  |out=>exact absurd HPX.out (by intro h;exact h)
  |bad c p =>
   have HCC:=h_ HPX.out.1
   have hwn:(c != 0)=true:=by simpa using HPX.out.1
   have HXE:Hid (exprR s=.bad c p):=by show _=_;unfold exprR;rw [HEE.out]
   simp only [PR.code,PR.pt] at k0 k1;have HPF:=h_ (HPC.out.setF c p);have HMF:Hid (Mv b wc ((wc.setCell ⟨b,2,none⟩ (.int .i64 c)).setCell ⟨b,3,none⟩ (.int .i64 p))):=((Mv.refl b wc).set 2 _).set 3 _;clear HFI hx1 hf2 hbr hpx z0 z1 z2 z3 z4 z5 r1 e1;go_wp2_with fail;have HXF:=HXR.out.mv HMF.out n5;have HPT:=HPR.out.turn (r:={ r with code:=c,pos:=p }) (m':=.bad c p) HMF.out HPF.out HR1.out.1 HR1.out.2.1 HR1.out.2.2 ⟨rfl,rfl,HCC.out⟩;have HMW:=HMR.out.trans HMF.out
   obtain ⟨W8,hW8⟩:∃W8,W8=(wc.setCell ⟨b,2,none⟩ (.int .i64 c)).setCell ⟨b,3,none⟩ (.int .i64 p):=⟨_,rfl⟩
   rw [<-hW8] at HXF HPT HMW ⊢;have HS:=HXF.all ev0;have HM:=six_put (b:=b) HMW hg0w ev0;have HPP:=HPT.ch (Ch.of_mv (six_mv W8 g0 ev0)) (λ k e=>by have e':k=g0:=e;omega);unfold six at HS HM HPP;dsimp only [ev0] at HS HM HPP;refine bodyPost_ret (XpB.res (v:=ev0) rfl _ rfl HS) rfl ?_;refine ⟨none,ev0,rfl,Rep.ex (GW.none _ w.heap.size w.heap.size) (n_ _) (n_ _) HM.size,λ x s' e=>?_,?_,HM⟩
   ·have e':exprR s=.ok x s':=e;rw [HXE.out] at e';cases e'
   ·show PS _ b K V D (exprR s).void;rw [HXE.out];exact HPP
  |ok x' r' =>
   have hwn:((0:Int) != 0)=false:=rfl
   have HXE:Hid (exprR s=.ok x' ⟨r',s.n,s.m,s.a⟩):=by show _=_;unfold exprR;rw [HEE.out]
   simp only [PR.code,PR.pt] at k0 k1;have HPF:=h_ (HPC.out.setq q);have HMF:Hid (Mv b wc (wc.setCell ⟨b,1,none⟩ (.int .i64 (q:Int)))):=(Mv.refl b wc).set 1 _;clear HFI hx1 hf2 hbr hpx r2 e2 r3 e3;go_wp2_with fail;have HXF:=HXR.out.mv HMF.out n5;have HX1F:=HX1.out.mv HMF.out hg1b;have hmm:=HM1.out;have HPT:=HPR.out.turn (r:={ r with q:=q }) (m':=.ok () ⟨r',s.n,s.m,s.a⟩) HMF.out HPF.out HPX.out.2.2.1 HR1.out.2.1 HR1.out.2.2 ⟨hmm.1,HPX.out.2.2.2,HPX.out.2.1,hmm.2.2.2⟩;have HMW:=HMR.out.trans HMF.out;have HGW:GW (wc.setCell ⟨b,1,none⟩ (.int .i64 (q:Int))) lo hi x'.gx v:=GW.same (λ k k1 k2=>HMF.out.block (by omega) (by omega)) HPX.out.1
   have hsz:(wc.setCell ⟨b,1,none⟩ (.int .i64 (q:Int))).heap.size=wc.heap.size:=by simp
   obtain ⟨W8,hW8⟩:∃W8,W8=wc.setCell ⟨b,1,none⟩ (.int .i64 (q:Int)):=⟨_,rfl⟩
   rw [<-hW8] at HXF HPT HMW HGW hsz ⊢;have HS:=HXF.all v;have HM:=six_put (b:=b) HMW hg0w v;have HPP:=HPT.ch (Ch.of_mv (six_mv W8 g0 v)) (λ k e=>by have e':k=g0:=e;omega);have HGG:GW (six W8 g0 v) lo hi x'.gx v:=GW.same (λ k k1 k2=>(six_mv W8 g0 v).block (by omega) (by omega)) HGW;have hsz2:=six_size W8 g0 v;have HRR:Rep (six W8 g0 v) w.heap.size (dvEx true (some x')) v.cells:=Rep.ex (y:=some x') HGG (by have:=HB0.out.size;omega) hlh (by omega);unfold six at HS HM HPP HRR;refine bodyPost_ret (XpB.res (v:=v) rfl _ rfl HS) rfl ?_;refine ⟨some x',v,rfl,HRR,λ x s' e=>congrArg some (Rs.ok.inj (HXE.out.symm.trans e)).1,?_,HM⟩
   ·show PS _ b K V D (exprR s).void;rw [HXE.out];exact HPP
theorem sets_mv (w:World) (g i:Nat) (l:List Value):Mv g w (sets w g i l):=(Ch.many (S:=λ k=>k=g) (.inl rfl) l i (Ch.refl _ w)).mv (λ _ _ h=>h)
theorem sets_put {b:Nat} {u w:World} (h:Mv b u w) {g:Nat} (hg:u.heap.size<=g) (i:Nat) (l:List Value):Mv b u (sets w g i l):=(Ch.many (S:=λ k=>k=b) (.inr hg) l i (Ch.of_mv h)).mv (λ _ _ h=>h)
theorem sets_below {u w:World} (h:Below u.heap.size u w) {g:Nat} (hg:u.heap.size<=g) (i:Nat) (l:List Value):Below u.heap.size u (sets w g i l):=(Ch.many (S:=λ _=>False) (.inr hg) l i (Ch.of_below h)).below (λ _ _ h=>h)
theorem PS.sets {w:World} {b:Nat} {K:Kx} {V D:Int} {m:Rs Unit} (h:PS w b K V D m) {g:Nat} (hg:b<g) (i:Nat) (l:List Value):PS (sets w g i l) b K V D m:=h.ch (Ch.of_mv (sets_mv w g i l)) (λ k e=>by have e':k=g:=e;omega)
theorem run_append_dv {P:Program} {w:World} (t ty e:TypeId) (i:TypeInfo) (z:Value) (k bytes:Nat) (h1:P.underlying t=some (.slice e)) (h2:P.info? e=some i) (h3:i.zero=some z) (h4:i.size=k) (h5:i.bytes=bytes) (h6:z.cells.size=k) (hk:0<k)
  {v:Value} {n:Nat} {cs:List DV} {F:List Nat} (hv:DvAt w (.row e k n cs) v F) (hF:F.Nodup) {g:Nat} {T:TypeId} {ys:List Value} (hg:CB w g T ys) {ds:List DV} {F2:List Nat} (hd:DvsAt w ds ys F2) (hl:ys.length=k) (hF2:F2.Nodup) (hdis:∀a∈F,a∉F2) (hn:n<=1000000) (hb:bytes<=10000) :
  ∃v' w' F',(Builtin.append_ #[t,t] ty #[v,.slice (some ⟨g,0,none⟩) 1 1]).run P w=.ok v' w'/\DvAt w' (.row e k (n+1) (cs++ds)) v' F'/\F'.Nodup/\(∀j∈F',j∈F∨j∈F2∨w.heap.size<=j)/\Ch (·∈F) w w':=by
 unfold DvAt at hv;obtain ⟨xs,H,a1,rfl,a2⟩:=hv;rw [List.nodup_append] at hF;obtain ⟨f1,f2,f3⟩:=hF
 obtain ⟨v',w',hr,b1,b2,_,b4⟩:=run_append_own_at (P:=P) (w:=w) 0 t ty e i z k bytes h1 h2 h3 h4 h5 h6 hk v n xs a1 ⟨g,0,none⟩ 1 1 ys (by omega) (λ j u hu=>by
   rw [Addr.add_lit,Nat.zero_add]
   exact hg.c j hu) hd.ones (by unfold maxLen;omega) (by
   have:(n+1)*bytes<=1000001*10000:=Nat.mul_le_mul (by omega) hb
   omega) (Nat.zero_le _)
 have hc:Ch (·∈v.ownBlock.toList) w w':=Ch.of_grown b2 (λ k hk=>by simp [hk]);have hc':Ch (·∈v.ownBlock.toList++H) w w':=hc.mono (λ k _ hk=>List.mem_append_left _ hk);have hH:=a2.lt;have hY:=hd.lt
 have hown:∀j∈v'.ownBlock.toList,j∈v.ownBlock.toList∨j=w.heap.size:=λ j hj=>by
  rcases b4 with b|b
  ·rw [b] at hj;exact .inl hj
  ·rw [b] at hj;exact .inr (by simpa using hj)
 refine ⟨v',w',v'.ownBlock.toList++(H++F2),hr,?_,?_,?_,hc'⟩
 ·unfold DvAt;exact ⟨xs++ys,H++F2,b1,rfl,(a2.ch hc (λ j hj hj'=>f3 j hj' j hj rfl)).app (hd.ch hc (λ j hj hj'=>hdis j (List.mem_append_left _ hj') hj))⟩
 ·rw [List.nodup_append,List.nodup_append];refine ⟨?_,⟨f2,hF2,λ a ha b hb e=>by subst e;exact hdis a (List.mem_append_right _ ha) hb⟩,λ a ha b hb e=>?_⟩
  ·cases v'.ownBlock <;> simp
  ·subst e;rcases hown a ha with h|h
   ·rcases List.mem_append.1 hb with hb|hb
    ·exact f3 a h a hb rfl
    ·exact hdis a (List.mem_append_left _ h) hb
   ·rcases List.mem_append.1 hb with hb|hb
    ·have:=hH a hb;omega
    ·have:=hY a hb;omega
 ·intro j hj;rcases List.mem_append.1 hj with hj|hj
  ·rcases hown j hj with h|h
   ·exact .inl (List.mem_append_left _ h)
   ·exact .inr (.inr (by omega))
  ·rcases List.mem_append.1 hj with hj|hj
   ·exact .inl (List.mem_append_right _ hj)
   ·exact .inr (.inl hj)
theorem infoAct:(Tryz.prog.info? 145).map (λ i=>(i.zero,i.size,i.bytes))=some (some (.agg #[.int .i64 0,.string ⟨#[]⟩,.int .i64 0,.int .i64 0,.string ⟨#[]⟩,.int .i64 0,.slice none 0 0,.int .i64 0,.int .i64 0]),9,104):=by kernel_rfl
theorem infoMove:(Tryz.prog.info? 43).map (λ i=>(i.zero,i.size,i.bytes))=some (some (.agg #[.int .i64 0,.string ⟨#[]⟩,.int .i64 0,.bool false,.int .i64 0,.int .i64 0,.string ⟨#[]⟩,.int .i64 0,.slice none 0 0,.int .i64 0,.slice none 0 0,.slice none 0 0,.int .i64 0]),13,168):=by kernel_rfl
theorem infoNode:(Tryz.prog.info? 27).map (λ i=>(i.zero,i.size,i.bytes))=some (some (.agg #[.int .i64 0,.string ⟨#[]⟩,.string ⟨#[]⟩,.string ⟨#[]⟩,.slice none 0 0,.slice none 0 0,.slice none 0 0,.slice none 0 0,.int .i64 0]),9,160):=by kernel_rfl
theorem infoVar:(Tryz.prog.info? 74).map (λ i=>(i.zero,i.size,i.bytes))=some (some (.agg #[.string ⟨#[]⟩,.int .i64 0,.int .i64 0]),3,32):=by kernel_rfl
theorem infoStr7:(Tryz.prog.info? 9).map (λ i=>(i.zero,i.size,i.bytes))=some (some (.string ⟨#[]⟩),1,16):=by kernel_rfl
theorem ldAct {w:World} {g:Nat} {v0 v1 v2 v3 v4 v5 v6 v7 v8:Value} (h:CB w g 145 [v0,v1,v2,v3,v4,v5,v6,v7,v8]):(loadVar 145 ⟨g,0,none⟩).run Tryz.prog w=.ok (.agg #[v0,v1,v2,v3,v4,v5,v6,v7,v8]) w :=
 run_loadVar_row w g _ _ _ _ _ h Tryz.underlying145 rfl (by kernel_rfl)
theorem resAct {w:World} {g:Nat} {v0 v1 v2 v3 v4 v5 v6 v7 v8:Value} {fn:Func} {p:Tmp} (hr:fn.results=#[.cell p 145]) (tmps:Array Value) (hp:tmps.getD p undef=.pointer (some ⟨g,0,none⟩)) (h:CB w g 145 [v0,v1,v2,v3,v4,v5,v6,v7,v8]) :
  (results fn tmps).run Tryz.prog w=.ok (.agg #[v0,v1,v2,v3,v4,v5,v6,v7,v8]) w:=by
 have hp':tmps[p]?.getD undef=.pointer (some ⟨g,0,none⟩):=by simpa using hp
 simp [results,hr,hp',asAddr,ldAct h]
theorem ldMove {w:World} {g:Nat} {v0 v1 v2 v3 v4 v5 v6 v7 v8 v9 v10 v11 v12:Value} (h:CB w g 43 [v0,v1,v2,v3,v4,v5,v6,v7,v8,v9,v10,v11,v12]):(loadVar 43 ⟨g,0,none⟩).run Tryz.prog w=.ok (.agg #[v0,v1,v2,v3,v4,v5,v6,v7,v8,v9,v10,v11,v12]) w :=
 run_loadVar_row w g _ _ _ _ _ h Tryz.underlying43 rfl (by kernel_rfl)
theorem resMove {w:World} {g:Nat} {v0 v1 v2 v3 v4 v5 v6 v7 v8 v9 v10 v11 v12:Value} {fn:Func} {p:Tmp} (hr:fn.results=#[.cell p 43]) (tmps:Array Value) (hp:tmps.getD p undef=.pointer (some ⟨g,0,none⟩)) (h:CB w g 43 [v0,v1,v2,v3,v4,v5,v6,v7,v8,v9,v10,v11,v12]) :
  (results fn tmps).run Tryz.prog w=.ok (.agg #[v0,v1,v2,v3,v4,v5,v6,v7,v8,v9,v10,v11,v12]) w:=by
 have hp':tmps[p]?.getD undef=.pointer (some ⟨g,0,none⟩):=by simpa using hp
 simp [results,hr,hp',asAddr,ldMove h]
theorem ldNode {w:World} {g:Nat} {v0 v1 v2 v3 v4 v5 v6 v7 v8:Value} (h:CB w g 27 [v0,v1,v2,v3,v4,v5,v6,v7,v8]):(loadVar 27 ⟨g,0,none⟩).run Tryz.prog w=.ok (.agg #[v0,v1,v2,v3,v4,v5,v6,v7,v8]) w :=
 run_loadVar_row w g _ _ _ _ _ h Tryz.underlying27 rfl (by kernel_rfl)
theorem resNode {w:World} {g:Nat} {v0 v1 v2 v3 v4 v5 v6 v7 v8:Value} {fn:Func} {p:Tmp} (hr:fn.results=#[.cell p 27]) (tmps:Array Value) (hp:tmps.getD p undef=.pointer (some ⟨g,0,none⟩)) (h:CB w g 27 [v0,v1,v2,v3,v4,v5,v6,v7,v8]) :
  (results fn tmps).run Tryz.prog w=.ok (.agg #[v0,v1,v2,v3,v4,v5,v6,v7,v8]) w:=by
 have hp':tmps[p]?.getD undef=.pointer (some ⟨g,0,none⟩):=by simpa using hp
 simp [results,hr,hp',asAddr,ldNode h]
theorem ldVar {w:World} {g:Nat} {v0 v1 v2:Value} (h:CB w g 74 [v0,v1,v2]):(loadVar 74 ⟨g,0,none⟩).run Tryz.prog w=.ok (.agg #[v0,v1,v2]) w :=
 run_loadVar_row w g _ _ _ _ _ h Tryz.underlying74 rfl (by kernel_rfl)
theorem resVar {w:World} {g:Nat} {v0 v1 v2:Value} {fn:Func} {p:Tmp} (hr:fn.results=#[.cell p 74]) (tmps:Array Value) (hp:tmps.getD p undef=.pointer (some ⟨g,0,none⟩)) (h:CB w g 74 [v0,v1,v2]) :
  (results fn tmps).run Tryz.prog w=.ok (.agg #[v0,v1,v2]) w:=by
 have hp':tmps[p]?.getD undef=.pointer (some ⟨g,0,none⟩):=by simpa using hp
 simp [results,hr,hp',asAddr,ldVar h]
theorem ldChart {w:World} {g:Nat} {v0 v1 v2 v3 v4 v5 v6 v7 v8 v9:Value} (h:CB w g 29 [v0,v1,v2,v3,v4,v5,v6,v7,v8,v9]):(loadVar 29 ⟨g,0,none⟩).run Tryz.prog w=.ok (.agg #[v0,v1,v2,v3,v4,v5,v6,v7,v8,v9]) w :=
 run_loadVar_row w g _ _ _ _ _ h Tryz.underlying29 rfl (by kernel_rfl)
theorem resChart {w:World} {g:Nat} {v0 v1 v2 v3 v4 v5 v6 v7 v8 v9:Value} {fn:Func} {p:Tmp} (hr:fn.results=#[.cell p 29]) (tmps:Array Value) (hp:tmps.getD p undef=.pointer (some ⟨g,0,none⟩)) (h:CB w g 29 [v0,v1,v2,v3,v4,v5,v6,v7,v8,v9]) :
  (results fn tmps).run Tryz.prog w=.ok (.agg #[v0,v1,v2,v3,v4,v5,v6,v7,v8,v9]) w:=by
 have hp':tmps[p]?.getD undef=.pointer (some ⟨g,0,none⟩):=by simpa using hp
 simp [results,hr,hp',asAddr,ldChart h]
def dvAct (o:Bool) (a:SyAct):List DV:=[.v (.int .i64 a.kind),.v (txV a.name)]++dvEx o a.value++[.v (.int .i64 a.at_)]
def dvActs (o:Bool) (l:List SyAct):DV:=.row 145 9 l.length (l.flatMap (dvAct o))
def dvStrs (l:List (List UInt8)):DV:=.row 9 1 l.length (l.map λ s=>.v (txV s))
def dvMove (o:Bool) (m:SyMove):List DV:=[.v (.int .i64 m.kind),.v (txV m.event),.v (.int .i64 m.wait),.v (.bool m.guarded)]++dvEx o m.guard++[dvActs o m.acts,dvStrs m.targets,.v (.int .i64 m.at_)]
def dvMoves (o:Bool) (l:List SyMove):DV:=.row 43 13 l.length (l.flatMap (dvMove o))
def dvVar (v:SyVar):List DV:=[.v (txV v.name),.v (.int .i64 v.num),.v (.int .i64 v.at_)]
def dvVars (l:List SyVar):DV:=.row 74 3 l.length (l.flatMap dvVar)
mutual
def dvNode (o:Bool):SyNode->List DV
 |.mk k name ini dft en le mo ks p=>[.v (.int .i64 k),.v (txV name),.v (txV ini),.v (txV dft),dvActs o en,dvActs o le,dvMoves o mo,.row 27 9 ks.length (dvNodes o ks),.v (.int .i64 p)]
def dvNodes (o:Bool):List SyNode->List DV
 |[]=>[]
 |x::l=>dvNode o x++dvNodes o l
end
def dvKids (o:Bool) (l:List SyNode):DV:=.row 27 9 l.length (dvNodes o l)
def dvChart (o:Bool) (c:SyChart):List DV:=dvVars c.vars::dvNode o c.root
theorem dvNodes_snoc (o:Bool):∀(l:List SyNode) (x:SyNode),dvNodes o (l++[x])=dvNodes o l++dvNode o x
 |[],x=>by show dvNode o x++dvNodes o []=[]++dvNode o x;rw [dvNodes];simp
 |y::l,x=>by
  show dvNode o y++dvNodes o (l++[x])=dvNode o y++dvNodes o l++dvNode o x;rw [dvNodes_snoc o l x,a_]
theorem dvNode_mk (o:Bool) (k:Int) (name ini dft:List UInt8) (en le:List SyAct) (mo:List SyMove) (ks:List SyNode) (p:Int) :
  dvNode o (.mk k name ini dft en le mo ks p)=[.v (.int .i64 k),.v (txV name),.v (txV ini),.v (txV dft),dvActs o en,dvActs o le,dvMoves o mo,dvKids o ks,.v (.int .i64 p)]:=by rw [dvNode];rfl
theorem Rs.seq {α β:Type} {e:Rs α} {x:α} (h:e.is x) (f:α->Ss->Rs β):e.bind f=e.void.go (f x):=by
 cases e with
 |out=>rfl
 |bad c p=>rfl
 |ok y s =>
  have:=h y s rfl;subst this;rfl
theorem go_go (m:Rs Unit) (f:Ss->Rs Unit) {β:Type} (g:Ss->Rs β):(m.go f).go g=m.go λ s=>(f s).go g:=by cases m <;> rfl
theorem unit_bind {β:Type} (e:Rs Unit) (f:Unit->Ss->Rs β):e.bind f=e.go (f ()):=by cases e <;> rfl
theorem go_ok_void {α:Type} (m:Rs Unit) (x:α):(m.go λ s=>(.ok x s:Rs α)).void=m:=by cases m <;> rfl
theorem go_ok_is {α:Type} (m:Rs Unit) (x:α):(m.go λ s=>(.ok x s:Rs α)).is x:=λ y s e=>by
 cases m with
 |out=>cases e
 |bad c p=>cases e
 |ok z r=>exact (Rs.ok.inj e).1.symm
theorem must_fin {α:Type} (m:Rs Unit) (x:α) {f:Ss->Rs Unit}:((m.go f).go λ s=>(.ok x s:Rs α))=m.go λ s=>(f s).bind λ _ s=>.ok x s:=by cases m <;> rfl
theorem Rep.v' {w:World} {base:Nat} {u u':Value} {ds:List DV} {xs:List Value} (hu:u=u') (h:Rep w base ds xs) (h1:u.oneCell'=true:=by rfl):Rep w base (.v u::ds) (u'::xs):=by
 subst hu;exact h.v h1
theorem Rep.snoc {w:World} {base:Nat} {u:Value} {ds:List DV} {xs:List Value} (h:Rep w base ds xs) (hu:u.oneCell'=true):Rep w base (ds++[.v u]) (xs++[u]):=by
 obtain ⟨F,h1,h2,h3⟩:=h;exact ⟨F++[],h1.app (DvsAt.v hu (DvsAt.nil w)),by simpa using h2,by simpa using h3⟩
def kdT (x:List UInt8):Int:=if x=wSet then 1 else if x=wRaise then 2 else 3
theorem sactKind_any (w:World) (X:ByteArray) :
  Calls Tryz.prog 221 #[.string X] w λ e w'=>e=.returned (.int .i64 (kdT X.data.toList))/\w=w':=by
 have e1:X.toList=X.data.toList:=Lib.toList_data X
 by_cases h1:X.data.toList=wSet
 ·have d1:(X.toList == [115,101,116])=true:=by rw [e1,h1];rfl
  have HK:Hid (kdT X.data.toList=1):=by show _=_;unfold kdT;rw [if_pos h1]
  clear e1 h1;go_enter Tryz.func221,Tryz.ntmps221;go_wp2_with fail;go_ret;exact ⟨by rw [HK.out];rfl,rfl⟩
 ·have d1:(X.toList == [115,101,116])=false:=by rw [e1,beq_eq_false_iff_ne];exact h1
  by_cases h2:X.data.toList=wRaise
  ·have d2:(X.toList == [114,97,105,115,101])=true:=by rw [e1,h2];rfl
   have HK:Hid (kdT X.data.toList=2):=by show _=_;unfold kdT;rw [if_neg h1,if_pos h2]
   clear e1 h1 h2;go_enter Tryz.func221,Tryz.ntmps221;go_wp2_with fail;go_ret;exact ⟨by rw [HK.out];rfl,rfl⟩
  ·have d2:(X.toList == [114,97,105,115,101])=false:=by rw [e1,beq_eq_false_iff_ne];exact h2
   have HK:Hid (kdT X.data.toList=3):=by show _=_;unfold kdT;rw [if_neg h1,if_neg h2]
   clear e1 h1 h2;go_enter Tryz.func221,Tryz.ntmps221;go_wp2_with fail;go_ret;exact ⟨by rw [HK.out];rfl,rfl⟩
def zAct:List Value:=[.int .i64 0,.string ⟨#[]⟩,.int .i64 0,.int .i64 0,.string ⟨#[]⟩,.int .i64 0,.slice none 0 0,.int .i64 0,.int .i64 0]
def nAct (k:Int) (x:List UInt8) (p:Int):List Value:=[.int .i64 k,txV x,.int .i64 0,.int .i64 0,.string ⟨#[]⟩,.int .i64 0,.slice none 0 0,.int .i64 0,.int .i64 p]
structure AIv (w2:World) (b:Nat) (K:Kx) (V D:Int) (m2:Rs Unit) (p:Nat) (vals:Nat->Option Value) (W:World):Prop where
 mv:Mv b w2 W
 p0:p=0->PS W b K V D m2
 p1:1<=p->∃t':Tk,vals 6=some (tkV t')/\(m2.go nameR).is (t'.text,t'.at_)/\PS W b K V D (m2.go nameR).void
 al:∀{u},vals 11=some u->∃g,u=pv g/\w2.heap.size<=g/\CB W g 145 zAct
section
variable {w2 w w':World} {b:Nat} {K:Kx} {V D:Int} {m2:Rs Unit} {p:Nat} {vals:Nat->Option Value}
theorem AIv.loc {vals':Nat->Option Value} (h:AIv w2 b K V D m2 p vals w) (h1:vals' 6=vals 6) (h2:vals' 11=vals 11):AIv w2 b K V D m2 p vals' w :=
 ⟨h.mv,h.p0,by rw [h1];exact h.p1,by rw [h2];exact h.al⟩
theorem AIv.zero (h:PS w2 b K V D m2):AIv w2 b K V D m2 0 (λ _=>none) w2.drew :=
 ⟨(Mv.refl b w2).drew,λ _=>h.below (b_ _ w2).drew,λ h=>absurd h (by omega),λ h=>(by cases h)⟩
theorem AIv.alloc (h:AIv w2 b K V D m2 p vals w) (_hv:vals 11=none):AIv w2 b K V D m2 p (updV vals 11 (.pointer (some ⟨w.heap.size,0,none⟩))) (w.alloc (.cells #[.int .i64 0,.string ⟨#[]⟩,.int .i64 0,.int .i64 0,.string ⟨#[]⟩,.int .i64 0,.slice none 0 0,.int .i64 0,.int .i64 0] 145)):=by
 have hb:Below w.heap.size w (w.alloc (.cells #[.int .i64 0,.string ⟨#[]⟩,.int .i64 0,.int .i64 0,.string ⟨#[]⟩,.int .i64 0,.slice none 0 0,.int .i64 0,.int .i64 0] 145)):=(b_ _ w).alloc (n_ _) _;refine ⟨h.mv.trans (Mv.of b hb),λ e=>(h.p0 e).below hb,λ e=>?_,λ {u} hu=>?_⟩
 ·obtain ⟨t',c1,c2,c3⟩:=h.p1 e;exact ⟨t',by rw [updV_ne vals _ (by decide)];exact c1,c2,c3.below hb⟩
 ·rw [updV_same] at hu;injection hu with hu;exact ⟨w.heap.size,hu.symm,World.grownBy.size h.mv,CB.new w _ zAct⟩
theorem AIv.call (h:AIv w2 b K V D m2 0 vals w) {t':Tk} (h1:(m2.go nameR).is (t'.text,t'.at_)) (h2:PS w' b K V D (m2.go nameR).void) (hm:Mv b w w') (hb:b<w2.heap.size):AIv w2 b K V D m2 1 (updV vals 6 (tkV t')) w':=by
 refine ⟨h.mv.trans hm,λ e=>absurd e (by omega),λ _=>⟨t',updV_same _ _ _,h1,h2⟩,λ {u} hu=>?_⟩;rw [updV_ne vals _ (by decide)] at hu;obtain ⟨g,k1,k2,k3⟩:=h.al hu;exact ⟨g,k1,k2,k3.mv hm (by omega)⟩
def AFin (w2:World) (b:Nat) (K:Kx) (V D:Int) (m2:Rs Unit) (k:Int) (t':Tk) (p:Int) (g4:Nat) (wr:World):Prop :=
 CB wr g4 145 (nAct k t'.text p)/\w2.heap.size<=g4/\(m2.go nameR).is (t'.text,t'.at_)/\PS wr b K V D (m2.go nameR).void/\Mv b w2 wr
def ADone (w2:World) (b:Nat) (K:Kx) (V D:Int) (m2:Rs Unit) (k p:Int) (vals:Nat->Option Value) (wr:World):Prop :=
 ∃(t':Tk) (g4:Nat),vals 11=some (pv g4)/\Hid (AFin w2 b K V D m2 k t' p g4 wr)
theorem AIv.fin (h:AIv w2 b K V D m2 1 vals w) {g:Nat} (hb:b<w2.heap.size) (hg:vals 11=some (pv g)) {t':Tk} (ht:vals 6=some (tkV t')) (k q:Int):AFin w2 b K V D m2 k t' q g (sets w g 0 [.int .i64 k,txV t'.text,.int .i64 0,.int .i64 0,.string ⟨#[]⟩,.int .i64 0,.slice none 0 0,.int .i64 0,.int .i64 q]):=by
 obtain ⟨g',e1,b1,c1⟩:=h.al hg;obtain rfl:=pv_inj (congrArg some e1);obtain ⟨t2,d1,d2,d3⟩:=h.p1 (n_ _);rw [ht] at d1
 have:t'=t2:=by
  injection d1 with d1;unfold tkV at d1;injection d1 with d1;have h0:=congrArg (λ a:Array Value=>a[0]?) d1;have h1:=congrArg (λ a:Array Value=>a[1]?) d1;have h2:=congrArg (λ a:Array Value=>a[2]?) d1;have h3:=congrArg (λ a:Array Value=>a[3]?) d1;simp [txV] at h0 h1 h2 h3;cases t';cases t2;simp only at h0 h1 h2 h3;subst h0 h1 h2 h3;rfl
 subst this;exact ⟨c1.all _ rfl,b1,d2,d3.sets (by omega) _ _,sets_put h.mv b1 _ _⟩
end
def sfF (b:Nat) (_K:Kx) (g3:Nat) (X:ByteArray) (k p:Int) (i:Nat) (vals:Nat->Option Value) (u:Value):Prop:=match i with|0=>u=Value.pointer (some ⟨g3,1,none⟩)|1=>u=Value.string X|2=>u=Value.int .i64 k|3=>u=Value.pointer (some ⟨b,0,none⟩)|4=>u=Value.pointer (some ⟨b,0,none⟩)|5=>u=Value.pointer (some ⟨b,0,none⟩)|6=>∃t':Tk,u=tkV t'|7=>∃t':Tk,vals 6=some (tkV t')/\u=txV t'.text|8=>u=Value.pointer (some ⟨g3,3,none⟩)|9=>u=Value.int .i64 p|10=>∃t':Tk,vals 6=some (tkV t')/\u=.agg #[.int .i64 k,txV t'.text,.int .i64 0,.int .i64 0,.string ⟨#[]⟩,.int .i64 0,.slice none 0 0,.int .i64 0,.int .i64 p]|_=>True
theorem head_tok {K:Kx} {s:Ss} {t t':Tk} {l:List Tk} (h:TokAt K (.ok () s) t') (hs:s.ts=t::l):t'=t:=by
 obtain ⟨r,hr⟩:=h.2 s rfl;rw [hs] at hr;injection hr with e _;exact e.symm
theorem kd_act {s:Ss} {t:Tk} {l:List Tk} (hs:s.ts=t::l) (ht:LexT t) (hk:actK s.ts≠0):(actK s.ts:Int)=kdT t.text/\t.kind≠5:=by
 have e1:∀u,isKw u=true->isTk 2 u t=decide (t.text=u):=λ u hu=>tells_kw hu t ht;unfold actK at hk ⊢;rw [hs] at hk ⊢;unfold kdT;have k1:isAt 2 wSet (t::l)=decide (t.text=wSet):=e1 _ (by decide);have k2:isAt 2 wRaise (t::l)=decide (t.text=wRaise):=e1 _ (by decide);have k3:isAt 2 wEmit (t::l)=decide (t.text=wEmit):=e1 _ (by decide)
 have h5:t.kind≠5:=by
  intro h5
  have n:∀u,isAt 2 u (t::l)=false:=λ u=>by show isTk 2 u t=false;unfold isTk;rw [h5];rfl
  simp only [wordAt,n] at hk;simp at hk
 refine ⟨?_,h5⟩;simp only [wordAt,k1,k2,k3,decide_eq_true_eq] at hk ⊢
 by_cases h1:t.text=wSet
 ·rw [if_pos h1,if_pos h1];rfl
 ·rw [if_neg h1,if_neg h1] at *
  by_cases h2:t.text=wRaise
  ·rw [if_pos h2,if_pos h2];rfl
  ·rw [if_neg h2,if_neg h2] at *
   by_cases h3:t.text=wEmit
   ·rw [if_pos h3];rfl
   ·rw [if_neg h3] at hk;exact absurd rfl hk
theorem act_eq {s:Ss} {t:Tk} {l:List Tk} (hs:s.ts=t::l) (hk:actK s.ts≠0) (hf:Fits s):actR s=(cntA t.at_ s.drop).go λ s0=>(nameR s0).bind λ x s1=>(actV (actK s.ts) s1).bind λ v s2=>(mustR 4 [59] s2).bind λ _ s3=>.ok ⟨actK s.ts,x.1,v,t.at_⟩ s3:=by
 unfold actR;rw [if_neg hk]
 have ha:atOf s.ts=t.at_:=by rw [hs];rfl
 unfold cntA;show (if s.a=400 then _ else _)=Rs.go (if 400<s.a+1 then _ else _) _
 by_cases h4:s.a=400
 ·rw [if_pos h4,if_pos (by omega)];rw [hs];rfl
 ·rw [if_neg h4,if_neg (by have:=hf.2.2;omega),ha];rfl
theorem sact_any (w:World) (b:Nat) (K:Kx) (V D:Int) (s:Ss) (h:PS w b K V D (.ok () s)) (hk:actK s.ts≠0) :
  Calls Tryz.prog 188 #[.pointer (some ⟨b,0,none⟩)] w λ e w'=>∃(x:SyAct) (ys:List Value),e=.returned (.agg ys.toArray)/\Rep w' w.heap.size (dvAct true x) ys/\(actR s).is x/\PS w' b K V D (actR s).void/\Mv b w w':=by
 obtain ⟨t,l,hs,hlt,_,_,hfit⟩:=h.head rfl;obtain ⟨hkd,h5⟩:=kd_act hs hlt hk
 obtain ⟨k,hkk⟩:∃k,kdT t.text=k:=⟨_,rfl⟩
 rw [hkk] at hkd
 obtain ⟨g0,hg0⟩:∃g,g=w.heap.size:=⟨_,rfl⟩
 obtain ⟨W0,hW0⟩:∃W0,W0=w.alloc (.cells #[.int .i64 0,.string ⟨#[]⟩,.int .i64 0,.int .i64 0,.string ⟨#[]⟩,.int .i64 0,.slice none 0 0,.int .i64 0,.int .i64 0] 145):=⟨_,rfl⟩
 have HR:Hid (CB W0 g0 145 zAct):=by rw [hW0,hg0];exact CB.new w _ zAct
 have HB0:Hid (Below w.heap.size w W0):=by rw [hW0];exact (b_ _ w).alloc (n_ _) _
 have hbw:=h.blt
 have hg0w:w.heap.size<=g0:=by omega
 have hg0b:g0≠b:=by omega
 have hsz0:=HB0.out.size
 have HC1:=h_ (stake_any W0 b K V D _ (h.below HB0.out) (λ s' e=>by
  obtain rfl:=(Rs.ok.inj e).2;rw [hs]
  exact h5))
 have HS:=h_ hs;have HK:=h_ hk;have HKD:=h_ hkd;have HKK:=h_ hkk;have HFIT:=h_ hfit;clear h hs hk hkd hkk hlt hfit h5;go_enter Tryz.func188,Tryz.ntmps188;go_upto_region 1 with fail;rw [<-hW0,<-hg0];clear hW0 hg0;go_wp2_with fail;refine HC1.out.mono ?_;rintro e w1 ⟨t',rfl,htok,hp,hm⟩;obtain rfl:=head_tok htok HS.out
 obtain ⟨X,hX⟩:∃X,txV t'.text=.string X:=⟨_,rfl⟩
 have HX:=h_ (show X.data.toList=t'.text by
  unfold txV at hX;injection hX with hX
  rw [<-hX])
 unfold tkV;rw [hX]
 obtain ⟨g3,hg3⟩:∃g,g=w1.heap.size:=⟨_,rfl⟩
 obtain ⟨W1,hW1⟩:∃W1,W1=w1.alloc (.cells #[.int .i64 t'.kind,.string X,.int .i64 t'.num,.int .i64 t'.at_] 131):=⟨_,rfl⟩
 have hb1:Below w1.heap.size w1 W1:=by rw [hW1];exact (b_ _ w1).alloc (n_ _) _
 have HT1:Hid (TkB W1 g3 (.int .i64 t'.kind) (.string X) (.int .i64 t'.num) (.int .i64 t'.at_)):=by rw [hW1,hg3];exact TkB.new _ _ _ _ _
 have HM1:Hid (Mv b w W1):=((Mv.of b HB0.out).trans hm).trans (Mv.of b hb1);have HR1:=h_ ((HR.out.mv hm hg0b).below hb1);have HP1:=h_ (hp.below hb1);have hsz1:=World.grownBy.size hm;have hbw1:=HP1.out.blt
 have hg3b:g3≠b:=by have:=hp.blt;omega
 have hg03:g0<g3:=by have:=HR.out.lt;omega
 have HTV:Hid (tkV t'=.agg #[.int .i64 t'.kind,.string X,.int .i64 t'.num,.int .i64 t'.at_]):=by show _=_;unfold tkV;rw [hX]
 have HCN:=h_ (λ n=>scount_A (W1.drewN n) b K V D _ t' (HP1.out.below (drewN_below W1 n)));rw [HTV.out] at HCN;clear hp hm hb1 hX HC1 HR htok;go_upto_region 2 with fail;rw [<-hW1,<-hg3];clear hW1 hg3;have z0:=HT1.out.c0;have z1:=HT1.out.c1;have z2:=HT1.out.c2;have z3:=HT1.out.c3
 go_cut [] from 9 to 14 (λ wr=>Hid (PS wr b K V D (cntA t'.at_ s.drop))/\Hid (Mv b W1 wr))
 case first =>
  go_region_with (go_at_call 114;refine (HCN.out _).mono ?_;rintro e w2 ⟨rfl,hp2,hm2⟩)
  all_goals
   go_wp2_with fail
   go_meet
   exact ⟨h_ hp2,h_ ((Mv.of b (drewN_below W1 _)).trans hm2)⟩
 case rest =>
 obtain ⟨HP2,HM12⟩:=hcut;have HT2:=h_ (HT1.out.mv HM12.out hg3b);have HR2:=h_ (HR1.out.mv HM12.out hg0b);have HM2:=h_ (HM1.out.trans HM12.out);have hsz2:=World.grownBy.size HM12.out
 obtain ⟨m2,hm2⟩:∃m2,cntA t'.at_ s.drop=m2:=⟨_,rfl⟩
 rw [hm2] at HP2;have HM2E:=h_ hm2;have hbw2:=HP2.out.blt;have hg3w2:g3<wc.heap.size:=HT2.out.lt;have hg0w2:g0<wc.heap.size:=HR2.out.lt
 have HAK:Hid (∀W,Calls Tryz.prog 221 #[.string X] W λ e w'=>e=.returned (.int .i64 k)/\W=w'):=λ W=>by
  have:=sactKind_any W X;rw [HX.out,HKK.out] at this;exact this
 obtain ⟨w2,hw2⟩:∃w2,w2=wc:=⟨_,rfl⟩
 subst hw2
 obtain ⟨t,ht⟩:∃t,t=t':=⟨_,rfl⟩
 subst ht;clear hm2 HM12 HT1 HR1 HM1 HP1 HCN z0 z1 z2 z3 hsz1;go_upto_region 3 with fail
 go_cut [4] from 15 to 25 (λ s4 wr=>∃(t':Tk) (g4:Nat),s4=.pointer (some ⟨g4,0,none⟩)/\Hid (AFin w2 b K V D m2 k t' t.at_ g4 wr))
 case first =>
   refine region_mix _ _ _ (by kernel_rfl) 12 rfl (by kernel_rfl) (by kernel_rfl) (λ i=>match i with|1=>[0]|2=>[1]|4=>[3]|5=>[4]|6=>[5]|7=>[6]|9=>[8]|10=>[2,7,9]|12=>[11,10]|_=>[]) (by kernel_rfl) (by kernel_rfl)
    (λ i=>match i with|6=>some 0|12=>some 1|_=>none) (λ i=>i==11) 1 rfl (by kernel_rfl)
    (sfF b K g3 X k t.at_) ?_ (λ p vals W=>AIv w2 b K V D m2 p vals W)
    (ADone w2 b K V D m2 k t.at_)
    (λ p vals vals' W hl hI=>hI.loc (hl _ (.inl rfl)) (hl _ (.inr rfl))) (AIv.zero HP2.out) ?_ ?_ ?_ ?_ ?_
   ·intro j vals vals' u hext hF
    have hk:∀z:Value,vals 6=some z->vals' 6=some z:=λ z hz=>by rw [hext 6 (by rw [hz];simp)];exact hz
    unfold sfF at hF ⊢
    split at hF
    ·exact hF
    ·exact hF
    ·exact hF
    ·exact hF
    ·exact hF
    ·exact hF
    ·exact hF
    ·obtain ⟨v,h1,h2⟩:=hF;exact ⟨v,hk _ h1,h2⟩
    ·exact hF
    ·exact hF
    ·obtain ⟨v,h1,h2⟩:=hF;exact ⟨v,hk _ h1,h2⟩
    ·trivial
   ·intro i o hi hrk hal ho a vals w p hpN hI hbase hdep
    have hi':i=0∨i=1∨i=2∨i=3∨i=4∨i=5∨i=6∨i=7∨i=8∨i=9∨i=10∨i=11:=by omega
    rcases hi' with rfl|rfl|rfl|rfl|rfl|rfl|rfl|rfl|rfl|rfl|rfl|rfl
    ·have hp:a.tmps[3]?.getD undef=Value.pointer (some ⟨g3,0,none⟩):=ev_get2 (hbase 3 (by kernel_rfl));simp only [t_,z_,j_] at ho;subst ho;unfold Oper.wp;go_simp;exact ⟨_,rfl,rfl,rfl⟩
    ·have h0:a.tmps[15]?.getD undef=Value.pointer (some ⟨g3,1,none⟩):=ev_get2 (show a.eval (.tmp 15)=Value.pointer (some ⟨g3,1,none⟩) from (hdep 0 (by simp)).1);have y1:=(HT2.out.mv hI.mv hg3b).c1;simp only [t_,s_,z_,j_] at ho;subst ho;unfold Oper.wp;go_simp;exact ⟨_,rfl,rfl,rfl⟩
    ·have h1:a.tmps[16]?.getD undef=Value.string X:=ev_get2 (show a.eval (.tmp 16)=Value.string X from (hdep 1 (by simp)).1);have HC:=HAK.out w;simp only [t_,s_,z_,j_] at ho;subst ho;unfold Oper.wp;go_simp;refine HC.mono ?_;rintro e w' ⟨rfl,rfl⟩;exact ⟨_,rfl,rfl,rfl⟩
    ·have hp:a.tmps[0]?.getD undef=Value.pointer (some ⟨b,0,none⟩):=ev_get2 (hbase 0 (by kernel_rfl));simp only [t_,s_,z_,j_] at ho;subst ho;unfold Oper.wp;go_simp;exact ⟨_,rfl,rfl,rfl⟩
    ·have h3:a.tmps[18]?.getD undef=Value.pointer (some ⟨b,0,none⟩):=ev_get2 (show a.eval (.tmp 18)=Value.pointer (some ⟨b,0,none⟩) from (hdep 3 (by simp)).1);simp only [t_,s_,z_,j_] at ho;subst ho;unfold Oper.wp;go_simp;exact ⟨_,rfl,rfl,rfl⟩
    ·have h4:a.tmps[19]?.getD undef=Value.pointer (some ⟨b,0,none⟩):=ev_get2 (show a.eval (.tmp 19)=Value.pointer (some ⟨b,0,none⟩) from (hdep 4 (by simp)).1);simp only [t_,s_,z_,j_] at ho;subst ho;unfold Oper.wp;go_simp;exact ⟨_,rfl,rfl,rfl⟩
    ·cases hrk
    ·obtain ⟨t',h6⟩:=(hdep 6 (by simp)).1;have hv:=(hdep 6 (by simp)).2
     have hvv:vals 6=some (tkV t'):=by rw [hv];exact congrArg some h6
     replace h6:a.tmps[21]?.getD undef=tkV t':=ev_get2 h6
     obtain ⟨Y,hY⟩:∃Y,txV t'.text=.string Y:=⟨_,rfl⟩
     have hR:sfF b K g3 X k t.at_ 7 vals (.string Y):=⟨t',hvv,hY.symm⟩
     unfold tkV at h6;rw [hY] at h6
     have hfl:∀w,(Instr.field 131 (.agg #[.int .i64 t'.kind,.string Y,.int .i64 t'.num,.int .i64 t'.at_]) 1).run Tryz.prog w=.ok (.string Y) w:=λ w=>by kernel_rfl
     simp only [t_,s_,z_,j_] at ho;subst ho;unfold Oper.wp;go_simp;exact ⟨_,rfl,hR,rfl⟩
    ·have hp:a.tmps[3]?.getD undef=Value.pointer (some ⟨g3,0,none⟩):=ev_get2 (hbase 3 (by kernel_rfl));simp only [t_,s_,z_,j_] at ho;subst ho;unfold Oper.wp;go_simp;exact ⟨_,rfl,rfl,rfl⟩
    ·have h8:a.tmps[23]?.getD undef=Value.pointer (some ⟨g3,3,none⟩):=ev_get2 (show a.eval (.tmp 23)=Value.pointer (some ⟨g3,3,none⟩) from (hdep 8 (by simp)).1);have y3:=(HT2.out.mv hI.mv hg3b).c3;simp only [t_,s_,z_,j_] at ho;subst ho;unfold Oper.wp;go_simp;exact ⟨_,rfl,rfl,rfl⟩
    ·have h2:a.tmps[17]?.getD undef=Value.int .i64 k:=ev_get2 (show a.eval (.tmp 17)=Value.int .i64 k from (hdep 2 (by simp)).1);have h9:a.tmps[24]?.getD undef=Value.int .i64 t.at_:=ev_get2 (show a.eval (.tmp 24)=Value.int .i64 t.at_ from (hdep 9 (by simp)).1);obtain ⟨t',hvv,h7⟩:=(hdep 7 (by simp)).1;replace h7:a.tmps[22]?.getD undef=txV t'.text:=ev_get2 h7
     obtain ⟨Y,hY⟩:∃Y,txV t'.text=.string Y:=⟨_,rfl⟩
     have hR:sfF b K g3 X k t.at_ 10 vals (.agg #[.int .i64 k,.string Y,.int .i64 0,.int .i64 0,.string ⟨#[]⟩,.int .i64 0,.slice none 0 0,.int .i64 0,.int .i64 t.at_]):=⟨t',hvv,by rw [hY]⟩
     rw [hY] at h7
     have hbd:∀w,(Instr.build 145 #[(0,.int .i64 k),(1,.string Y),(3,.int .i64 t.at_)]).run Tryz.prog w=.ok (.agg #[.int .i64 k,.string Y,.int .i64 0,.int .i64 0,.string ⟨#[]⟩,.int .i64 0,.slice none 0 0,.int .i64 0,.int .i64 t.at_]) w:=λ w=>by kernel_rfl
     simp only [t_,s_,z_,j_] at ho;subst ho;unfold Oper.wp;go_simp;exact ⟨_,rfl,hR,rfl⟩
    ·cases hal
   ·intro i o hi hrk hal ho a vals w p hpN hI hv hcl
    have hi':i=0∨i=1∨i=2∨i=3∨i=4∨i=5∨i=6∨i=7∨i=8∨i=9∨i=10∨i=11:=by omega
    rcases hi' with rfl|rfl|rfl|rfl|rfl|rfl|rfl|rfl|rfl|rfl|rfl|rfl
    ·cases hal
    ·cases hal
    ·cases hal
    ·cases hal
    ·cases hal
    ·cases hal
    ·cases hrk
    ·cases hal
    ·cases hal
    ·cases hal
    ·cases hal
    ·simp only [t_,s_,z_,j_] at ho;subst ho;unfold Oper.wp;go_simp;exact ⟨_,rfl,trivial,hI.alloc hv⟩
   ·intro i o r' hi hrk ho a vals w hI hbase hdep hv hcl
    have hi':i=0∨i=1∨i=2∨i=3∨i=4∨i=5∨i=6∨i=7∨i=8∨i=9∨i=10∨i=11:=by omega
    rcases hi' with rfl|rfl|rfl|rfl|rfl|rfl|rfl|rfl|rfl|rfl|rfl|rfl
    ·cases hrk
    ·cases hrk
    ·cases hrk
    ·cases hrk
    ·cases hrk
    ·cases hrk
    ·obtain rfl:r'=0:=by injection hrk with hrk;exact hrk.symm
     have h5:a.tmps[20]?.getD undef=Value.pointer (some ⟨b,0,none⟩):=ev_get2 (show a.eval (.tmp 20)=Value.pointer (some ⟨b,0,none⟩) from (hdep 5 (by simp)).1);have HC:=sname_any w b K V D m2 (hI.p0 rfl);simp only [t_,s_,z_,j_] at ho;subst ho;unfold Oper.wp;go_simp;refine HC.mono ?_;rintro e w' ⟨t',rfl,his,hp,hm⟩;exact ⟨_,rfl,⟨t',rfl⟩,hI.call his hp hm hbw2⟩
    ·cases hrk
    ·cases hrk
    ·cases hrk
    ·cases hrk
    ·cases hrk
   ·intro o ho a vals w hI hbase hdep hall hF;have hva:=(hdep 11 (by simp)).2;obtain ⟨g4,hg4,hw4,hc4⟩:=hI.al hva;obtain ⟨t',hv6,h10⟩:=(hdep 10 (by simp)).1
    have hva':vals 11=some (pv g4):=by rw [hva,hg4]
    obtain ⟨Y,hY⟩:∃Y,txV t'.text=.string Y:=⟨_,rfl⟩
    have hfin:=hI.fin hbw2 hva' hv6 k t.at_;rw [hY] at hfin;replace h10:a.tmps[25]?.getD undef=_:=ev_get2 h10;rw [hY] at h10;replace hg4:a.tmps[4]?.getD undef=.pointer (some ⟨g4,0,none⟩):=ev_get2 hg4;unfold zAct at hc4;have c0:=hc4.c 0 rfl;have f0:=hc4.fr 0;have c1:=hc4.c 1 rfl;have f1:=hc4.fr 1;have c2:=hc4.c 2 rfl;have f2:=hc4.fr 2;have c3:=hc4.c 3 rfl;have f3:=hc4.fr 3;have c4:=hc4.c 4 rfl;have f4:=hc4.fr 4;have c5:=hc4.c 5 rfl;have f5:=hc4.fr 5;have c6:=hc4.c 6 rfl;have f6:=hc4.fr 6;have c7:=hc4.c 7 rfl;have f7:=hc4.fr 7;have c8:=hc4.c 8 rfl;have f8:=hc4.fr 8;simp only [t_,s_,z_,j_] at ho;subst ho;unfold Oper.wp;go_simp;refine ⟨.tuple #[],rfl,λ vals' hv'=>?_⟩;exact ⟨t',g4,by rw [hv' 11 (by omega)];exact hva',h_ hfin⟩
   ·intro vals W hF hall;obtain ⟨t',g4,h11,hfin⟩:=hF;unfold pv at h11;obtain ⟨v0,h0⟩:=x_ (hall 0 (by omega));obtain ⟨v1,h1⟩:=x_ (hall 1 (by omega));obtain ⟨v2,h2⟩:=x_ (hall 2 (by omega));obtain ⟨v3,h3⟩:=x_ (hall 3 (by omega));obtain ⟨v4,h4⟩:=x_ (hall 4 (by omega));obtain ⟨v5,h5⟩:=x_ (hall 5 (by omega));obtain ⟨v6,h6⟩:=x_ (hall 6 (by omega));obtain ⟨v7,h7⟩:=x_ (hall 7 (by omega));obtain ⟨v8,h8⟩:=x_ (hall 8 (by omega));obtain ⟨v9,h9⟩:=x_ (hall 9 (by omega));obtain ⟨v10,h10⟩:=x_ (hall 10 (by omega));obtain ⟨v12,h12⟩:=x_ (hall 12 (by omega));simp only [puts,put1,show List.range (12+1)=[0,1,2,3,4,5,6,7,8,9,10,11,12] from rfl,List.foldl_cons,List.foldl_nil,h0,h1,h2,h3,h4,h5,h6,h7,h8,h9,h10,h11,h12,t_,s_,z_,Act.put,u_,v_,k_];clear h0 h1 h2 h3 h4 h5 h6 h7 h8 h9 h10 h11 h12 hall;go_wp2_with fail
    go_meet
    exact ⟨t',g4,rfl,hfin⟩
 case rest =>
 obtain ⟨t',g4,rfl,HFI⟩:=hcut;obtain ⟨hcb,hg4,his,hps,hm3⟩:=HFI.out
 obtain ⟨Y,hY⟩:∃Y,txV t'.text=.string Y:=⟨_,rfl⟩
 have HY:=h_ hY;unfold nAct at hcb;rw [hY] at hcb;have HA3:=h_ hcb;have HR3:=h_ (HR2.out.mv hm3 hg0b);have HM3:=h_ (HM2.out.trans hm3);have HIS:=h_ his
 obtain ⟨m3,hm3e⟩:∃m3,(m2.go nameR).void=m3:=⟨_,rfl⟩
 rw [hm3e] at hps;have HP3:=h_ hps;have HM3E:=h_ hm3e;have hsz3:=World.grownBy.size hm3
 have hg4b:g4≠b:=by omega
 have hg04:g0≠g4:=by omega
 have hg4w:g4<wc.heap.size:=HA3.out.lt;have hww:w.heap.size<=w2.heap.size:=World.grownBy.size HM2.out
 have HEQ0:Hid (actR s=(m3.go (actV (actK s.ts))).bind λ v s2=>(mustR 4 [59] s2).bind λ _ s3=>.ok ⟨actK s.ts,t'.text,v,t.at_⟩ s3):=by
  show _=_;rw [act_eq HS.out HK.out HFIT.out,HM2E.out,go_bind,Rs.seq HIS.out,HM3E.out,go_bind]
 have c0:=HA3.out.c 0 rfl;clear hcb his hps hm3 hm3e hY HFI HR2 HM2 HAK HT2 HP2
 cases hk2:(k != 2) with
 |true =>
  have hne:¬actK s.ts=2:=λ e=>by
   have:=HKD.out;rw [e] at this;rw [<-this] at hk2;exact absurd hk2 (by decide)
  have HNE:=h_ hne;have HC4:=h_ (sneed_any wc b K V D m3 HP3.out ⟨#[61]⟩ 4 (tells_sg (by decide)) (by decide));clear hne;go_wp2_with fail;refine HC4.out.mono ?_;rintro e w4 ⟨rfl,hp,hm⟩;have HA4:=h_ (HA3.out.mv hm hg4b);have HR4:=h_ (HR3.out.mv hm hg0b);have HM4:=h_ (HM3.out.trans hm);have hsz4:=World.grownBy.size hm
  obtain ⟨m4,hm4⟩:∃m4,m3.go (mustR 4 [61])=m4:=⟨_,rfl⟩
  replace hp:PS w4 b K V D m4:=by rw [<-hm4];exact hp
  have HM4E:=h_ hm4;have HC5:=h_ (sexpr_any w4 b K V D m4 hp);clear hp hm hm4 HC4 c0;go_wp2_with fail;refine HC5.out.mono ?_;rintro e w5 ⟨y,v,rfl,hrp,hy,hp,hm⟩;have hvv:v.val=.agg #[.int .i64 v.kind,.int .i64 v.num,.string v.name,.int .i64 v.op,.slice v.A v.len v.cap,.int .i64 v.p]:=rfl;rw [hvv]
  obtain ⟨m6,hm6⟩:∃m6,(m4.go exprR).void=m6:=⟨_,rfl⟩
  rw [hm6] at hp;have hsz5:=World.grownBy.size hm
  obtain ⟨W6,hW6⟩:∃W6,W6=sets w5 g4 2 v.cells:=⟨_,rfl⟩
  have HA5:=h_ (HA4.out.mv hm hg4b);have hm45:=sets_mv w5 g4 2 v.cells
  have HA6:Hid (CB W6 g4 145 [.int .i64 k,.string Y,.int .i64 v.kind,.int .i64 v.num,.string v.name,.int .i64 v.op,.slice v.A v.len v.cap,.int .i64 v.p,.int .i64 t.at_]):=by
   rw [hW6];exact CB.many v.cells 2 HA5.out (by simp [EV.cells])
  have HR6:Hid (CB W6 g0 145 zAct):=by rw [hW6];exact (HR4.out.mv hm hg0b).mv hm45 hg04
  have HRP6:Hid (Rep W6 w4.heap.size (dvEx true y) v.cells):=by rw [hW6];exact hrp.mv hm45 (by omega)
  have HP6:Hid (PS W6 b K V D m6):=by rw [hW6];exact hp.sets (by omega) _ _
  have HM6:Hid (Mv b w W6):=by rw [hW6];exact sets_put (HM4.out.trans hm) (by omega) _ _
  have HEQ:Hid (actR s=(m6.go (mustR 4 [59])).go λ s3=>.ok ⟨actK s.ts,t'.text,y,t.at_⟩ s3):=by
   show _=_
   have e1:m3.go (actV (actK s.ts))=(m4.go exprR).bind λ x s=>.ok (some x) s:=by
    rw [<-HM4E.out,go_go,<-go_bind]
    congr 1
    funext s0
    unfold actV;rw [if_neg HNE.out]
    cases mustR 4 [61] s0 <;> rfl
   have e2:((m4.go exprR).bind λ x s=>(.ok (some x) s:Rs (Option Ex))).is y:=λ z s0 e=>by
    obtain ⟨x,s1,h1,h2⟩:=Rs.some e;have:=hy x s1 h1;rw [this];exact (Rs.ok.inj h2).1.symm
   rw [HEQ0.out,e1,Rs.seq e2,bind_void,hm6];exact (must_fin _ _).symm
  have hsz6:W6.heap.size=w5.heap.size:=by rw [hW6,sets_size]
  have c0:=HA5.out.c 0 rfl;have c1:=HA5.out.c 1 rfl;have c2:=HA5.out.c 2 rfl;have c3:=HA5.out.c 3 rfl;have c4:=HA5.out.c 4 rfl;have c5:=HA5.out.c 5 rfl;have c6:=HA5.out.c 6 rfl;have c7:=HA5.out.c 7 rfl;have f0:=HA5.out.fr 2;have f1:=HA5.out.fr 3;have f2:=HA5.out.fr 4;have f3:=HA5.out.fr 5;have f4:=HA5.out.fr 6;have f5:=HA5.out.fr 7;unfold EV.cells at hW6;simp only [sets,Nat.reduceAdd] at hW6;have HWW:=h_ hW6;clear hrp hy hp hm hvv hm6 hm45 HC5 hW6;go_upto_region 7 with fail;rw [<-HWW.out];clear HWW c0 c1 c2 c3 c4 c5 c6 c7 f0 f1 f2 f3 f4 f5 HA5;have HCN:=h_ (sneed_any W6 b K V D m6 HP6.out ⟨#[59]⟩ 4 (tells_sg (by decide)) (by decide));go_wp2_with fail;refine HCN.out.mono ?_;rintro e w7 ⟨rfl,hp,hm⟩;have HA7:=h_ (HA6.out.mv hm (by omega));have HR7:=h_ (HR6.out.mv hm hg0b);have HRP7:=h_ (HRP6.out.mv hm (by omega));have HP7:=h_ hp;have HM7:=h_ (HM6.out.trans hm);have c0:=HA7.out.c 0 rfl;have c1:=HA7.out.c 1 rfl;have c2:=HA7.out.c 2 rfl;have c3:=HA7.out.c 3 rfl;have c4:=HA7.out.c 4 rfl;have c5:=HA7.out.c 5 rfl;have c6:=HA7.out.c 6 rfl;have c7:=HA7.out.c 7 rfl;have c8:=HA7.out.c 8 rfl;have f0:=HR7.out.fr 0;have d0:=HR7.out.c 0 rfl;have f1:=HR7.out.fr 1;have d1:=HR7.out.c 1 rfl;have f2:=HR7.out.fr 2;have d2:=HR7.out.c 2 rfl;have f3:=HR7.out.fr 3;have d3:=HR7.out.c 3 rfl;have f4:=HR7.out.fr 4;have d4:=HR7.out.c 4 rfl;have f5:=HR7.out.fr 5;have d5:=HR7.out.c 5 rfl;have f6:=HR7.out.fr 6;have d6:=HR7.out.c 6 rfl;have f7:=HR7.out.fr 7;have d7:=HR7.out.c 7 rfl;have f8:=HR7.out.fr 8;have d8:=HR7.out.c 8 rfl;clear hp hm HCN HA6 HR6 HRP6 HM6 HP6;unfold zAct at HR7;go_wp2_with fail;have hres:=HR7.out.all [.int .i64 k,.string Y,.int .i64 v.kind,.int .i64 v.num,.string v.name,.int .i64 v.op,.slice v.A v.len v.cap,.int .i64 v.p,.int .i64 t.at_] rfl;have hmf:=sets_put HM7.out hg0w 0 [.int .i64 k,.string Y,.int .i64 v.kind,.int .i64 v.num,.string v.name,.int .i64 v.op,.slice v.A v.len v.cap,.int .i64 v.p,.int .i64 t.at_];have hpf:=HP7.out.sets (g:=g0) (by omega) 0 [.int .i64 k,.string Y,.int .i64 v.kind,.int .i64 v.num,.string v.name,.int .i64 v.op,.slice v.A v.len v.cap,.int .i64 v.p,.int .i64 t.at_];have hrp:=HRP7.out.mv (sets_mv w7 g0 0 [.int .i64 k,.string Y,.int .i64 v.kind,.int .i64 v.num,.string v.name,.int .i64 v.op,.slice v.A v.len v.cap,.int .i64 v.p,.int .i64 t.at_]) (by omega);simp only [sets,Nat.reduceAdd] at hres hmf hpf hrp;refine bodyPost_ret (resAct rfl _ rfl hres) rfl ?_;have hkd:=HKD.out;refine ⟨⟨k,t'.text,y,t.at_⟩,_,rfl,?_,?_,?_,hmf⟩
  ·refine Rep.v rfl (Rep.v' (HY.out) ?_);exact Rep.snoc (hrp.mono (by omega)) rfl
  ·rw [HEQ.out];rw [hkd];exact go_ok_is _ _
  ·rw [HEQ.out,go_ok_void];exact hpf
 |false =>
  have he:actK s.ts=2:=by
   have:=HKD.out
   have h2:k=2:=by simpa using hk2
   rw [h2] at this;omega
  have HNE:=h_ he
  obtain ⟨v,hv⟩:∃v,v=ev0:=⟨_,rfl⟩
  obtain ⟨y,hy⟩:∃y:Option Ex,y=none:=⟨_,rfl⟩
  have HA6:Hid (CB wc g4 145 [.int .i64 k,.string Y,.int .i64 v.kind,.int .i64 v.num,.string v.name,.int .i64 v.op,.slice v.A v.len v.cap,.int .i64 v.p,.int .i64 t.at_]):=by rw [hv];exact HA3.out
  have HRP6:Hid (Rep wc wc.heap.size (dvEx true y) v.cells):=by rw [hv,hy];exact Rep.ex (GW.none _ wc.heap.size wc.heap.size) (n_ _) (n_ _) (n_ _)
  have HEQ:Hid (actR s=(m3.go (mustR 4 [59])).go λ s3=>.ok ⟨actK s.ts,t'.text,y,t.at_⟩ s3):=by
   show _=_
   have e1:m3.go (actV (actK s.ts))=m3.go λ s=>.ok none s:=by
    congr 1
    funext s0
    unfold actV;rw [if_pos HNE.out]
   have e2:(m3.go λ s=>(.ok none s:Rs (Option Ex))).is y:=by rw [hy];exact go_ok_is _ _
   rw [HEQ0.out,e1,Rs.seq e2,go_ok_void];exact (must_fin _ _).symm
  have HR6:=HR3;have HP6:=HP3;have HM6:=HM3
  obtain ⟨W6,hW6⟩:∃W6,W6=wc:=⟨_,rfl⟩
  subst hW6
  obtain ⟨m6,hm6⟩:∃m6,m6=m3:=⟨_,rfl⟩
  subst hm6;have hsz4:w2.heap.size<=W6.heap.size:=hsz3;clear he hv hy;have HCN:=h_ (sneed_any W6 b K V D m6 HP6.out ⟨#[59]⟩ 4 (tells_sg (by decide)) (by decide));go_wp2_with fail;refine HCN.out.mono ?_;rintro e w7 ⟨rfl,hp,hm⟩;have HA7:=h_ (HA6.out.mv hm (by omega));have HR7:=h_ (HR6.out.mv hm hg0b);have HRP7:=h_ (HRP6.out.mv hm (by omega));have HP7:=h_ hp;have HM7:=h_ (HM6.out.trans hm);have c0:=HA7.out.c 0 rfl;have c1:=HA7.out.c 1 rfl;have c2:=HA7.out.c 2 rfl;have c3:=HA7.out.c 3 rfl;have c4:=HA7.out.c 4 rfl;have c5:=HA7.out.c 5 rfl;have c6:=HA7.out.c 6 rfl;have c7:=HA7.out.c 7 rfl;have c8:=HA7.out.c 8 rfl;have f0:=HR7.out.fr 0;have d0:=HR7.out.c 0 rfl;have f1:=HR7.out.fr 1;have d1:=HR7.out.c 1 rfl;have f2:=HR7.out.fr 2;have d2:=HR7.out.c 2 rfl;have f3:=HR7.out.fr 3;have d3:=HR7.out.c 3 rfl;have f4:=HR7.out.fr 4;have d4:=HR7.out.c 4 rfl;have f5:=HR7.out.fr 5;have d5:=HR7.out.c 5 rfl;have f6:=HR7.out.fr 6;have d6:=HR7.out.c 6 rfl;have f7:=HR7.out.fr 7;have d7:=HR7.out.c 7 rfl;have f8:=HR7.out.fr 8;have d8:=HR7.out.c 8 rfl;clear hp hm HCN HA6 HR6 HRP6 HM6 HP6;unfold zAct at HR7;go_wp2_with fail;have hres:=HR7.out.all [.int .i64 k,.string Y,.int .i64 v.kind,.int .i64 v.num,.string v.name,.int .i64 v.op,.slice v.A v.len v.cap,.int .i64 v.p,.int .i64 t.at_] rfl;have hmf:=sets_put HM7.out hg0w 0 [.int .i64 k,.string Y,.int .i64 v.kind,.int .i64 v.num,.string v.name,.int .i64 v.op,.slice v.A v.len v.cap,.int .i64 v.p,.int .i64 t.at_];have hpf:=HP7.out.sets (g:=g0) (by omega) 0 [.int .i64 k,.string Y,.int .i64 v.kind,.int .i64 v.num,.string v.name,.int .i64 v.op,.slice v.A v.len v.cap,.int .i64 v.p,.int .i64 t.at_];have hrp:=HRP7.out.mv (sets_mv w7 g0 0 [.int .i64 k,.string Y,.int .i64 v.kind,.int .i64 v.num,.string v.name,.int .i64 v.op,.slice v.A v.len v.cap,.int .i64 v.p,.int .i64 t.at_]) (by omega);simp only [sets,Nat.reduceAdd] at hres hmf hpf hrp;refine bodyPost_ret (resAct rfl _ rfl hres) rfl ?_;have hkd:=HKD.out;refine ⟨⟨k,t'.text,y,t.at_⟩,_,rfl,?_,?_,?_,hmf⟩
  ·refine Rep.v rfl (Rep.v' (HY.out) ?_);exact Rep.snoc (hrp.mono (by omega)) rfl
  ·rw [HEQ.out];rw [hkd];exact go_ok_is _ _
  ·rw [HEQ.out,go_ok_void];exact hpf
theorem Ch.trans2 {S S1:Nat->Prop} {u w w':World} (h:Ch S u w) (k:Ch S1 w w') (hs:∀j,j<u.heap.size->S1 j->S j):Ch S u w' :=
 ⟨k.os.trans h.os,k.tape.trans h.tape,k.output.trans h.output,Nat.le_trans h.size k.size,λ i hi hn=>(k.block i (Nat.lt_of_lt_of_le hi h.size) (λ hs1=>hn (hs i hi hs1))).trans (h.block i hi hn)⟩
def Stays (b:Nat) (Pp:World->Prop):Prop:=∀(S:Nat->Prop) (W W':World),Pp W->Ch S W W'->(∀k,S k->b<k)->Pp W'
theorem Stays.below {b:Nat} {Pp:World->Prop} (h:Stays b Pp) {W W':World} (hp:Pp W) (hb:Below W.heap.size W W'):Pp W':=h (λ _=>False) W W' hp (Ch.of_below hb) (λ _ h=>h.elim)
theorem stays_ps (b:Nat) (K:Kx) (V D:Int) (m:Rs Unit):Stays b (λ W=>PS W b K V D m):=λ _ _ _ hp hc hs=>hp.ch hc hs
structure BIv (w0:World) (b gl:Nat) (T:TypeId) (vs:List Value) (Pp Pq:World->Prop) (e:TypeId) (k n:Nat) (cs:List DV) (v:Value) (F:List Nat) (pd:List DV->Prop) (Mk:Value->List Value->Prop) (ic ib ia p:Nat) (vals:Nat->Option Value) (W:World):Prop where
 ch:Ch (λ j=>j=b∨j∈F) w0 W
 p0:p=0->Pp W
 row:p<=2->DvAt W (.row e k n cs) v F
 cell:CB W gl T vs
 p1:1<=p->p<=2->∃u ys ds F2,vals ic=some u/\Mk u ys/\pd ds/\DvsAt W ds ys F2/\ys.length=k/\F2.Nodup/\(∀g∈F2,w0.heap.size<=g)/\Pq W/\(p=2->∃gs,vals ib=some (.slice (some ⟨gs,0,none⟩) 1 1)/\CB W gs e ys)
 p3:3<=p->∃ds v' F',vals ia=some v'/\pd ds/\DvAt W (.row e k (n+1) (cs++ds)) v' F'/\F'.Nodup/\(∀g∈F',g∈F∨w0.heap.size<=g)/\Pq W
section
variable {w0 w w':World} {b gl:Nat} {T:TypeId} {vs:List Value} {Pp Pq:World->Prop} {e:TypeId} {k n:Nat} {cs:List DV} {v:Value} {F:List Nat} {pd:List DV->Prop} {Mk:Value->List Value->Prop} {ic ib ia p:Nat} {vals:Nat->Option Value}
theorem BIv.loc {vals':Nat->Option Value} (h:BIv w0 b gl T vs Pp Pq e k n cs v F pd Mk ic ib ia p vals w) (h1:vals' ic=vals ic) (h2:vals' ib=vals ib) (h3:vals' ia=vals ia):BIv w0 b gl T vs Pp Pq e k n cs v F pd Mk ic ib ia p vals' w :=
 ⟨h.ch,h.p0,h.row,h.cell,by rw [h1,h2];exact h.p1,by rw [h3];exact h.p3⟩
theorem BIv.zero (hs:Stays b Pp) (hp:Pp w0) (hr:DvAt w0 (.row e k n cs) v F) (hc:CB w0 gl T vs):BIv w0 b gl T vs Pp Pq e k n cs v F pd Mk ic ib ia 0 (λ _=>none) w0.drew :=
 ⟨(Ch.refl _ w0).drew,λ _=>hs.below hp (b_ _ w0).drew,λ _=>hr.below (b_ _ w0).drew,hc,λ h=>absurd h (by omega),λ h=>absurd h (by omega)⟩
theorem BIv.call (h:BIv w0 b gl T vs Pp Pq e k n cs v F pd Mk ic ib ia 0 vals w) {u:Value} {ys:List Value} {ds:List DV} (hmk:Mk u ys) (hd:pd ds) (hr:Rep w' w.heap.size ds ys) (hl:ys.length=k) (hq:Pq w') (hm:Mv b w w') (hgl:gl≠b) (hF:b∉F):BIv w0 b gl T vs Pp Pq e k n cs v F pd Mk ic ib ia 1 (updV vals ic u) w':=by
 obtain ⟨F2,f1,f2,f3⟩:=hr;refine ⟨h.ch.trans ((Ch.of_mv hm).mono (λ _ _ h=>.inl h)),λ e=>absurd e (by omega),λ _=>(h.row (by omega)).ch (Ch.of_mv hm) (λ g hg e=>hF (by rw [<-e];exact hg)),h.cell.mv hm hgl,λ _ _=>⟨u,ys,ds,F2,updV_same _ _ _,hmk,hd,f1,hl,f2,λ g hg=>Nat.le_trans h.ch.size (f3 g hg),hq,λ e=>absurd e (by omega)⟩,λ e=>absurd e (by omega)⟩
theorem BIv.build (h:BIv w0 b gl T vs Pp Pq e k n cs v F pd Mk ic ib ia 1 vals w) (hs:Stays b Pq) (d1:ic≠ib):∃u ys,vals ic=some u/\Mk u ys/\ys.length=k/\BIv w0 b gl T vs Pp Pq e k n cs v F pd Mk ic ib ia 2 (updV vals ib (.slice (some ⟨w.heap.size,0,none⟩) 1 1)) (w.alloc (.cells ys.toArray e)):=by
 obtain ⟨u,ys,ds,F2,c1,cm,c2,c3,c4,c5,c6,c7,_⟩:=h.p1 (n_ _) (by omega);have hb:Below w.heap.size w (w.alloc (.cells ys.toArray e)):=(b_ _ w).alloc (n_ _) _;exact ⟨u,ys,c1,cm,c4,h.ch.trans (Ch.of_below hb),λ e=>absurd e (by omega),λ _=>(h.row (by omega)).below hb,h.cell.below hb,λ _ _=>⟨u,ys,ds,F2,by rw [updV_ne vals _ d1];exact c1,cm,c2,c3.below hb,c4,c5,c6,hs.below c7 hb,λ _=>⟨w.heap.size,updV_same _ _ _,CB.new w e ys⟩⟩,λ e=>absurd e (by omega)⟩
theorem BIv.app (h:BIv w0 b gl T vs Pp Pq e k n cs v F pd Mk ic ib ia 2 vals w) (P:Program) (t ty:TypeId) (z:Value) (bytes:Nat) (hinfo:(P.info? e).map (λ i=>(i.zero,i.size,i.bytes))=some (some z,k,bytes)) (h1:P.underlying t=some (.slice e)) (h6:z.cells.size=k) (hk:0<k) (hbt:bytes<=10000)
  {gs:Nat} (hgs:vals ib=some (.slice (some ⟨gs,0,none⟩) 1 1)) (hn:n<=1000000) (hFn:F.Nodup) (hFl:∀g∈F,g<w0.heap.size/\b<g) (hgl:gl∉F) (hs:Stays b Pq) :
  ∃v' w',(Builtin.append_ #[t,t] ty #[v,.slice (some ⟨gs,0,none⟩) 1 1]).run P w=.ok v' w'/\BIv w0 b gl T vs Pp Pq e k n cs v F pd Mk ic ib ia 3 (updV vals ia v') w':=by
 obtain ⟨i,hi,hz0,hz1,hz2⟩:=info_parts hinfo;obtain ⟨_,ys,ds,F2,_,_,c2,c3,c4,c5,c6,c7,c8⟩:=h.p1 (by omega) (n_ _);obtain ⟨gs',c9,c10⟩:=c8 rfl
 obtain rfl:gs=gs':=by
  rw [hgs] at c9;injection c9 with c9;injection c9 with c9;injection c9 with c9;injection c9 with c9
 obtain ⟨v',w',F',hr,a1,a2,a3,a4⟩:=run_append_dv t ty e i z k bytes h1 hi hz0 hz1 hz2 h6 hk (h.row (n_ _)) hFn c10 c3 c4 c5 (λ a ha hb=>by have:=(hFl a ha).1;have:=c6 a hb;omega) hn hbt;refine ⟨v',w',hr,h.ch.trans (a4.mono (λ _ _ h=>.inr h)),λ e=>absurd e (by omega),λ e=>absurd e (by omega),h.cell.ch a4 hgl,λ _ e=>absurd e (by omega),λ _=>⟨ds,v',F',updV_same _ _ _,c2,a1,a2,λ g hg=>?_,hs _ _ _ c7 a4 (λ k hk=>(hFl k hk).2)⟩⟩;rcases a3 g hg with h'|h'|h'
 ·exact .inl h'
 ·exact .inr (c6 g h')
 ·exact .inr (Nat.le_trans h.ch.size h')
end
def BFin (w0:World) (b gl:Nat) (T:TypeId) (vs:List Value) (jl:Nat) (Pq:World->Prop) (e:TypeId) (k n:Nat) (cs:List DV) (F:List Nat) (pd:List DV->Prop) (wr:World):Prop :=
 ∃ds v' F',CB wr gl T (vs.set jl v')/\pd ds/\DvAt wr (.row e k (n+1) (cs++ds)) v' F'/\F'.Nodup/\(∀g∈F',g∈F∨w0.heap.size<=g)/\Pq wr/\Ch (λ j=>j=b∨j=gl∨j∈F) w0 wr
theorem BIv.fin {w0 w:World} {b gl:Nat} {T:TypeId} {vs:List Value} {Pp Pq:World->Prop} {e:TypeId} {k n:Nat} {cs:List DV} {v:Value} {F:List Nat} {pd:List DV->Prop} {Mk:Value->List Value->Prop} {ic ib ia:Nat} {vals:Nat->Option Value} (h:BIv w0 b gl T vs Pp Pq e k n cs v F pd Mk ic ib ia 3 vals w) (hs:Stays b Pq) {v':Value} (hv:vals ia=some v') (jl:Nat) (hbg:b<gl) (hgl:gl∉F) (hgw:gl<w0.heap.size) :
  BFin w0 b gl T vs jl Pq e k n cs F pd (w.setCell ⟨gl,jl,none⟩ v'):=by
 obtain ⟨ds,v2,F',c1,c2,c3,c4,c5,c6⟩:=h.p3 (n_ _)
 obtain rfl:v'=v2:=by rw [hv] at c1;injection c1
 have hm:Mv gl w (w.setCell ⟨gl,jl,none⟩ v'):=(Mv.refl gl w).set jl v';refine ⟨ds,v',F',h.cell.set jl v',c2,c3.ch (Ch.of_mv hm) (λ g hg e=>?_),c4,c5,hs _ _ _ c6 (Ch.of_mv hm) (λ k e=>by have e':k=gl:=e;omega),(h.ch.mono (λ k _ hk=>?_)).trans ((Ch.of_mv hm).mono (λ k _ hk=>.inr (.inl hk)))⟩
 ·have e':g=gl:=e;subst e';rcases c5 g hg with h'|h'
  ·exact hgl h'
  ·omega
 ·rcases hk with hk|hk
  ·exact .inl hk
  ·exact .inr (.inr hk)
theorem DvAt.slice {w:World} {e:TypeId} {k n:Nat} {cs:List DV} {x:Value} {F:List Nat} (h:DvAt w (.row e k n cs) x F):∃A c,x=.slice A n c/\n<=c/\c<=maxLen:=by
 unfold DvAt at h;obtain ⟨xs,H,h1,_⟩:=h;rcases h1.2 with ⟨h2,h3⟩|⟨g,cap,cur,h2,_,_,h3,h4,_⟩
 ·subst h3;exact ⟨none,0,h2,n_ _,Nat.zero_le _⟩
 ·exact ⟨_,_,h2,h3,h4⟩
theorem cells9 {l:List Value} (h:l.length=9):∃y0 y1 y2 y3 y4 y5 y6 y7 y8,l=[y0,y1,y2,y3,y4,y5,y6,y7,y8]:=by
 match l,h with
 |[y0,y1,y2,y3,y4,y5,y6,y7,y8],_=>exact ⟨_,_,_,_,_,_,_,_,_,rfl⟩
def bgF (b:Nat) (v:Value) (i:Nat) (_vals:Nat->Option Value) (u:Value):Prop:=match i with
 |0=>u=v
 |1=>u=.pointer (some ⟨b,0,none⟩)
 |2=>∃ys:List Value,u=.agg ys.toArray/\ys.length=9
 |3=>∃gs:Nat,u=.slice (some ⟨gs,0,none⟩) 1 1
 |_=>True
theorem sblk_act (w:World) (b:Nat) (K:Kx) (V D:Int) (s:Ss) (gl gp:Nat) (v:Value) (l:List SyAct) (F:List Nat) (h:PS w b K V D (.ok () s)) (hk:actK s.ts≠0) (hcell:CB w gl 23 [v]) (hgp:CB w gp 134 [.pointer (some ⟨b,0,none⟩)])
  (hrow':DvAt w (dvActs true l) v F) (hFn:F.Nodup) (hFb:∀g∈F,b<g) (hbg:b<gl) (hbp:b<gp) (hglF:gl∉F) (hgpF':gp∉F) (hn':l.length<=1000000) :
  Calls Tryz.prog 187 #[.pointer (some ⟨gl,0,none⟩),.pointer (some ⟨gp,0,none⟩)] w λ e w'=>e=.returned (.tuple #[])/\∃(x:SyAct) (v':Value) (F':List Nat),CB w' gl 23 [v']/\(actR s).is x/\DvAt w' (dvActs true (l++[x])) v' F'/\F'.Nodup/\(∀g∈F',g∈F∨w.heap.size<=g)/\PS w' b K V D (actR s).void/\Ch (λ j=>j=b∨j=gl∨j∈F) w w':=by
 have hs0:=stays_ps b K V D (.ok () s);have hs:=stays_ps b K V D (actR s).void;have hp0:=h
 obtain ⟨cs,hcs⟩:∃cs,l.flatMap (dvAct true)=cs:=⟨_,rfl⟩
 obtain ⟨n,hnn⟩:∃n,l.length=n:=⟨_,rfl⟩
 have hE:∀x:SyAct,dvActs true (l++[x])=.row 145 9 (n+1) (cs++dvAct true x):=λ x=>by unfold dvActs;rw [List.flatMap_append,hcs,List.length_append,hnn];simp
 have hrow:DvAt w (.row 145 9 n cs) v F:=by rw [<-hcs,<-hnn];exact hrow'
 have hn:n<=1000000:=by omega
 have hFl:∀g∈F,g<w.heap.size/\b<g:=λ g hg=>⟨hrow.lt g hg,hFb g hg⟩
 have hglw:=hcell.lt
 have hbF:b∉F:=λ hb=>by have:=hFb b hb;omega
 have hgpF:¬(gp=b∨gp∈F):=λ h=>h.elim (λ e=>by omega) hgpF';go_enter Tryz.func187,Tryz.ntmps187;go_upto_region 0 with fail
 refine region_mix _ _ _ (by kernel_rfl) 5 rfl (by kernel_rfl) (by kernel_rfl) (λ i=>match i with|2=>[1]|3=>[2]|4=>[0,3]|5=>[4]|_=>[]) (by kernel_rfl) (by kernel_rfl)
  (λ i=>match i with|2=>some 0|3=>some 1|4=>some 2|5=>some 3|_=>none) (λ _=>false) 3 rfl (by kernel_rfl)
  (bgF b v) ?_ (λ p vals W=>BIv w b gl 23 [v] (λ W=>PS W b K V D (.ok () s)) (λ W=>PS W b K V D (actR s).void) 145 9 n cs v F (λ ds=>∃x:SyAct,ds=dvAct true x/\(actR s).is x) (λ u ys=>u=.agg ys.toArray) 2 3 4 p vals W)
  (λ _ wr=>BFin w b gl 23 [v] 0 (λ W=>PS W b K V D (actR s).void) 145 9 n cs F (λ ds=>∃x:SyAct,ds=dvAct true x/\(actR s).is x) wr)
  (λ p vals vals' W hl hI=>hI.loc (hl _ (.inl rfl)) (hl _ (.inl rfl)) (hl _ (.inl rfl))) (BIv.zero hs0 hp0 hrow hcell) ?_ ?_ ?_ ?_ ?_
 ·intro j vals vals' u hext hF;exact hF
 ·intro i o hi hrk hal ho a vals w p hpN hI hbase hdep
  have hi':i=0∨i=1∨i=2∨i=3∨i=4:=by omega
  rcases hi' with rfl|rfl|rfl|rfl|rfl
  ·have hp:a.tmps[0]?.getD undef=Value.pointer (some ⟨gl,0,none⟩):=ev_get2 (hbase 0 (by kernel_rfl));have y0:=hI.cell.c 0 rfl;simp only [t_,z_,j_] at ho;subst ho;unfold Oper.wp;go_simp;exact ⟨_,rfl,rfl,rfl⟩
  ·have hp:a.tmps[1]?.getD undef=Value.pointer (some ⟨gp,0,none⟩):=ev_get2 (hbase 1 (by kernel_rfl));have y0:=(hgp.ch hI.ch hgpF).c 0 rfl;simp only [t_,s_,z_,j_] at ho;subst ho;unfold Oper.wp;go_simp;exact ⟨_,rfl,rfl,rfl⟩
  ·cases hrk
  ·cases hrk
  ·cases hrk
 ·intro i o hi hrk hal;cases hal
 ·intro i o r' hi hrk ho a vals w2 hI hbase hdep hv hcl
  have hi':i=0∨i=1∨i=2∨i=3∨i=4:=by omega
  rcases hi' with rfl|rfl|rfl|rfl|rfl
  ·cases hrk
  ·cases hrk
  ·obtain rfl:r'=0:=by injection hrk with hrk;exact hrk.symm
   have h1:a.tmps[3]?.getD undef=Value.pointer (some ⟨b,0,none⟩):=ev_get2 (show a.eval (.tmp 3)=Value.pointer (some ⟨b,0,none⟩) from (hdep 1 (by simp)).1);have HC:=sact_any w2 b K V D s (hI.p0 rfl) hk;simp only [t_,s_,z_,j_] at ho;subst ho;unfold Oper.wp;go_simp;refine HC.mono ?_;rintro e w' ⟨x,ys,rfl,hrp,his,hp,hm⟩
   have hl:ys.length=9:=by obtain ⟨F2,f1,_,_⟩:=hrp;have:=f1.len;rw [this];rfl
   exact ⟨_,rfl,⟨ys,rfl,hl⟩,hI.call (u:=.agg ys.toArray) rfl ⟨x,rfl,his⟩ hrp hl hp hm (by omega) hbF⟩
  ·obtain rfl:r'=1:=by injection hrk with hrk;exact hrk.symm
   obtain ⟨u,ys,c1,rfl,hl,hIb⟩:=hI.build hs (by decide);have h2:=(hdep 2 (by simp)).2;rw [c1] at h2;replace h2:a.tmps[4]?.getD undef=_:=ev_get2 (Option.some.inj h2).symm;obtain ⟨y0,y1,y2,y3,y4,y5,y6,y7,y8,rfl⟩:=cells9 hl;simp only [t_,s_,z_,j_] at ho;subst ho;unfold Oper.wp;go_simp;exact ⟨_,rfl,⟨_,rfl⟩,hIb⟩
  ·obtain rfl:r'=2:=by injection hrk with hrk;exact hrk.symm
   have h0:a.eval (.tmp 2)=v:=(hdep 0 (by simp)).1;obtain ⟨gs,h3⟩:=(hdep 3 (by simp)).1
   have hv3:vals 3=some (.slice (some ⟨gs,0,none⟩) 1 1):=by rw [(hdep 3 (by simp)).2];exact congrArg some h3
   replace h3:a.eval (.tmp 5)=_:=h3;obtain ⟨v',w',hr,hI'⟩:=hI.app Tryz.prog 23 23 _ _ infoAct Tryz.underlying23 rfl (by decide) (by decide) hv3 hn hFn hFl hglF hs;simp only [t_,s_,z_,j_] at ho;subst ho;unfold Oper.wp;simp only [execOp,resolve,invoke,builtin,Sem.run_bind,Sem.run_pure,Result.andThen_ok,List.map_toArray,List.map_cons,List.map_nil,h0,h3,hr];exact ⟨_,rfl,trivial,hI'⟩
 ·intro o ho a vals w2 hI hbase hdep hall hF;have hp:a.tmps[0]?.getD undef=Value.pointer (some ⟨gl,0,none⟩):=ev_get2 (hbase 0 (by kernel_rfl));obtain ⟨v',hva⟩:=x_ (Option.isSome_iff_ne_none.2 (hall 4 (by omega)));have hv4:=(hdep 4 (by simp)).2;rw [hva] at hv4;have h4:a.tmps[6]?.getD undef=v':=ev_get2 (show a.eval (.tmp 6)=v' from (Option.some.inj hv4).symm);have y0:=hI.cell.c 0 rfl;have f0:=hI.cell.fr 0;obtain ⟨_,_,_,c1,_,c3,_,_,_⟩:=hI.p3 (n_ _);rw [hva] at c1;obtain rfl:=Option.some.inj c1;obtain ⟨A',c',hsl,_,_⟩:=c3.slice;subst hsl;have hfin:=hI.fin hs hva 0 hbg hglF hglw;simp only [t_,s_,z_,j_] at ho;subst ho;unfold Oper.wp;go_simp;exact ⟨.tuple #[],rfl,λ _ _=>hfin⟩
 ·intro vals W hF hall;obtain ⟨v0,h0⟩:=x_ (hall 0 (by omega));obtain ⟨v1,h1⟩:=x_ (hall 1 (by omega));obtain ⟨v2,h2⟩:=x_ (hall 2 (by omega));obtain ⟨v3,h3⟩:=x_ (hall 3 (by omega));obtain ⟨v4,h4⟩:=x_ (hall 4 (by omega));obtain ⟨v5,h5⟩:=x_ (hall 5 (by omega));simp only [puts,put1,show List.range (5+1)=[0,1,2,3,4,5] from rfl,List.foldl_cons,List.foldl_nil,h0,h1,h2,h3,h4,h5,t_,s_,z_,Act.put,u_,v_,k_];clear h0 h1 h2 h3 h4 h5 hall;go_wp2_with fail;go_end0;obtain ⟨_,v',F',a1,⟨x,rfl,a2⟩,a3,a4,a5,a6,a7⟩:=hF;exact ⟨rfl,x,v',F',a1,a2,by rw [hE];exact a3,a4,a5,a6,a7⟩
def Rs.left (m:Rs Unit):Nat:=match m with
 |.ok _ s=>s.ts.length+1
 |_=>0
def msP (b n:Nat) (w:World):Nat:=match w.cell? ⟨b,2,none⟩,w.cell? ⟨b,1,none⟩ with
 |some (.int _ c),some (.int _ q)=>if c=0 then n-q.toNat+1 else 0
 |_,_=>0
theorem PS.ms {w:World} {b:Nat} {K:Kx} {V D:Int} {m:Rs Unit} (h:PS w b K V D m):msP b K.n w=m.left:=by
 obtain ⟨r,h1,h2,_,_,h5⟩:=h.out;unfold msP;rw [h1.c2,h1.c1]
 cases m with
 |out=>exact absurd h5 (by intro h;exact h)
 |bad c p =>
  show (if r.code=0 then _ else 0)=0;rw [if_neg (by rw [h5.1];exact h5.2.2)]
 |ok x s =>
  show (if r.code=0 then _ else 0)=s.ts.length+1;rw [if_pos h5.1,<-h5.2.1,List.length_drop,h.at_.1];simp
theorem each_it {σ:Type} (b:Nat) (K:Kx) (D:Int) (g:Nat) (us:List (List UInt8)) (kf:Nat) (caps:Array Value) (hE:∀args w,(callFunc kf args).run Tryz.prog w=.ok (.enter kf args) w)
  (stp:σ->Ss->Rs (σ×Bool)) (hgoes:Goes stp) (Iv:σ->Rs Unit->World->Prop)
  (hps:∀x m w,Iv x m w->∃V,PS w b K V D m) (htx:∀x m w,Iv x m w->CB w g 9 (us.map txV)) (hb:∀x m w w',Iv x m w->Below w.heap.size w w'->Iv x m w')
  (hstop:∀x s t l,s.ts=t::l->LexT t->bgn us s=false->stp x s=.ok (x,false) s) (hgo:∀x s y s' t l,s.ts=t::l->LexT t->bgn us s=true->stp x s≠.ok (y,false) s')
  (hR:∀x s w,Iv x (.ok () s) w->bgn us s=true->Calls Tryz.prog kf caps w λ e w'=>e=.returned (.tuple #[])/\∃y,(∀z bb s',stp x s=.ok (z,bb) s'->z=y)/\Iv y (stp x s).void w')
  (x:σ) (m:Rs Unit) (w:World) (h0:Iv x m w) (hu:us.length<=1000000) :
  Calls Tryz.prog 77 #[.pointer (some ⟨b,0,none⟩),.func (.func kf) #[] caps,.slice (some ⟨g,0,none⟩) us.length us.length] w λ e w'=>e=.returned (.tuple #[])/\∃y,(m.go (It stp x)).is y/\Iv y (m.go (It stp x)).void w':=by
 refine (seach_any w b g us.length kf caps hE (λ W=>∃x1 m1,Iv x1 m1 W/\m.go (It stp x)=m1.go (It stp x1)) (λ d W=>∃x1 m1,Iv x1 m1 W/\m.go (It stp x)=m1.go (It stp x1)/\d=m1.tell (bgn us)) (msP b K.n) ?_ ?_ ⟨x,m,h0,rfl⟩).mono ?_
 ·rintro W ⟨x1,m1,hi,he⟩;obtain ⟨V,hp⟩:=hps _ _ _ hi;refine (sbegins_any W b K V D m1 g us hp (htx _ _ _ hi) hu).mono ?_;rintro e w' ⟨rfl,hbl⟩;refine ⟨_,rfl,⟨x1,m1,hb _ _ _ _ hi hbl,he,rfl⟩,?_⟩;rw [hp.ms,(hp.below hbl).ms];exact n_ _
 ·rintro W ⟨x1,m1,hi,he,hd⟩;obtain ⟨s,rfl,hbg⟩:=Rs.tell_true hd.symm;obtain ⟨V,hp⟩:=hps _ _ _ hi;obtain ⟨t,l,hs,hl,_,_,_⟩:=hp.head rfl;refine (hR x1 s W hi hbg).mono ?_;rintro e w' ⟨rfl,y,hy,hi'⟩;refine ⟨rfl,⟨y,_,hi',?_⟩,?_⟩
  ·rw [he];show It stp x1 s=_;rw [It_eq hgoes]
   cases e1:stp x1 s with
   |out=>rfl
   |bad c p=>rfl
   |ok z s' =>
    obtain ⟨z,bb⟩:=z;obtain rfl:=hy z bb s' e1
    cases bb with
    |false=>exact absurd e1 (hgo x1 s z s' t l hs hl hbg)
    |true=>rfl
  ·obtain ⟨V',hp'⟩:=hps _ _ _ hi';rw [hp.ms,hp'.ms];show _<s.ts.length+1
   cases e1:stp x1 s with
   |out=>exact Nat.succ_pos _
   |bad c p=>exact Nat.succ_pos _
   |ok z s' =>
    obtain ⟨z,bb⟩:=z
    cases bb with
    |false=>exact absurd e1 (hgo x1 s z s' t l hs hl hbg)
    |true =>
     have:=hgoes _ _ _ _ e1;show s'.ts.length+1<_;omega
 ·rintro e w' ⟨rfl,x1,m1,hi,he,hd⟩;refine ⟨rfl,x1,?_⟩;rw [he];obtain ⟨V,hp⟩:=hps _ _ _ hi
  cases m1 with
  |out=>exact absurd rfl hp.notOut
  |bad c p=>exact ⟨λ _ _ h=>(by cases h),hi⟩
  |ok u s =>
   obtain ⟨t,l,hs,hl,_,_,_⟩:=hp.head rfl;have h1:=hstop x1 s t l hs hl hd.symm
   have h2:It stp x1 s=.ok x1 s:=by rw [It_eq hgoes,h1];rfl
   show (It stp x1 s).is x1/\Iv x1 (It stp x1 s).void w';rw [h2];refine ⟨λ y s' e=>(Rs.ok.inj e).1.symm,?_⟩;cases u;exact hi
def actS (l:List SyAct) (s:Ss):Rs (List SyAct×Bool):=if actK s.ts=0 then .ok (l,false) s else (actR s).bind λ x s'=>.ok (l++[x],true) s'
theorem actS_steps (l:List SyAct) (s:Ss):Steps s (actS l s):=by
 unfold actS
 split
 ·exact .stop _ _
 ·exact .of ((Takes.bind (actR_takes s) λ _ _ _=>Takes.ok _ _).mono (by omega))
theorem actS_goes:Goes actS:=goes_of actS_steps
theorem word_bgn {l:List (List UInt8)} (hl:∀u∈l,isKw u=true) {s:Ss} {t:Tk} {r:List Tk} (hs:s.ts=t::r) (ht:LexT t):∀i,i≠0->(bgn l s=true ↔ wordAt s.ts l i≠0):=by
 unfold bgn textAt;rw [hs]
 induction l with
 |nil=>intro i _;simp [wordAt]
 |cons u l ih =>
  intro i hi;have h1:isAt 2 u (t::r)=decide (t.text=u):=tells_kw (hl u (by simp)) t ht;rw [wordAt,h1]
  by_cases c:t.text=u
  ·simp [c,hi]
  ·rw [if_neg (by simpa using c),<-ih (λ v hv=>hl v (by simp [hv])) (i+1) (by omega)];simp [c]
theorem blk_it:∀(f:Nat) (l:List SyAct) (s:Ss),s.ts.length<f->itF blkS f l s=(itF actS f l s).bind λ y s'=>(mustR 4 [125] s').bind λ _ s''=>.ok y s''
 |0,_,_,h=>by omega
 |f+1,l,s,h=>by
  rw [itF,itF];unfold blkS actS
  by_cases hk:actK s.ts=0
  ·rw [if_pos hk]
   by_cases hc:isAt 4 [125] s.ts=true
   ·rw [if_pos hc];show Rs.ok l s.drop=(mustR 4 [125] s).bind _;unfold mustR;rw [if_pos hc];rfl
   ·rw [if_neg hc];unfold actR;rw [if_pos hk];show Rs.bind (Rs.bind (wrongR s.ts) _) _=(mustR 4 [125] s).bind _;unfold mustR;rw [if_neg hc]
    cases s.ts with
    |nil=>rfl
    |cons t r=>rw [wrongR_cons,wrongR_cons];split <;> rfl
  ·have hc:¬isAt 4 [125] s.ts=true:=λ hc=>by
    obtain ⟨t,r,hs⟩:=isAt_cons hc;rw [hs] at hc;have h1:isTk 4 [125] t=true:=hc;unfold isTk at h1;rw [Bool.and_eq_true,decide_eq_true_eq] at h1;apply hk;unfold actK;rw [hs]
    have n:∀u,isAt 2 u (t::r)=false:=λ u=>by show isTk 2 u t=false;unfold isTk;rw [h1.1];rfl
    simp [wordAt,n]
   rw [if_neg hc,if_neg hk]
   cases e:actR s with
   |out=>rfl
   |bad c p=>rfl
   |ok x s' =>
    show itF blkS f (l++[x]) s'=(itF actS f (l++[x]) s').bind _;refine blk_it f _ s' ?_;have:=actR_takes s _ _ e;omega
theorem block_eq (s:Ss):blockR s=(mustR 4 [123] s).bind λ _ s1=>(It actS [] s1).bind λ y s2=>(mustR 4 [125] s2).bind λ _ s3=>.ok y s3:=by
 unfold blockR;refine Rs.congr λ _ s1 _=>?_;unfold It;exact blk_it _ _ _ (Nat.lt_succ_self _)
structure BlkIv (w:World) (b:Nat) (K:Kx) (V D:Int) (gl gp:Nat) (l:List SyAct) (m:Rs Unit) (W:World):Prop where
 ps:PS W b K V D m
 row:∃v F,CB W gl 23 [v]/\DvAt W (dvActs true l) v F/\F.Nodup/\∀g∈F,w.heap.size<g
 ch:Ch (λ j=>j=b∨j=gl) w W
 tx:CB W w.heap.size 9 ([wSet,wRaise,wEmit].map txV)
 gp:CB W gp 134 [.pointer (some ⟨b,0,none⟩)]
 len:(∀s,m=.ok () s->l.length+s.ts.length<=K.n)/\l.length<=K.n+1
theorem BlkIv.below {w:World} {b:Nat} {K:Kx} {V D:Int} {gl gp:Nat} {l:List SyAct} {m:Rs Unit} {W W':World} (h:BlkIv w b K V D gl gp l m W) (hb:Below W.heap.size W W'):BlkIv w b K V D gl gp l m W':=by
 obtain ⟨v,F,h1,h2,h3,h4⟩:=h.row;exact ⟨h.ps.below hb,⟨v,F,h1.below hb,h2.below hb,h3,h4⟩,h.ch.trans (Ch.of_below hb),h.tx.below hb,h.gp.below hb,h.len⟩
theorem PS.left_le {w:World} {b:Nat} {K:Kx} {V D:Int} {s:Ss} (h:PS w b K V D (.ok () s)):s.ts.length<=K.n:=by
 obtain ⟨r,_,_,_,_,h5⟩:=h.out;rw [<-h5.2.1,List.length_drop,h.at_.1];omega
theorem BlkIv.step {w:World} {b:Nat} {K:Kx} {V D:Int} {gl gp:Nat} {l:List SyAct} {s:Ss} {W:World} (h:BlkIv w b K V D gl gp l (.ok () s) W) (hk:actK s.ts≠0) (hbl:b<gl) (hbp:b<gp) (hne:gl≠gp) (hlw:gl<w.heap.size) (hpw:gp<w.heap.size) :
  Calls Tryz.prog 187 #[.pointer (some ⟨gl,0,none⟩),.pointer (some ⟨gp,0,none⟩)] W λ e w'=>e=.returned (.tuple #[])/\∃y,(∀z bb s',actS l s=.ok (z,bb) s'->z=y)/\BlkIv w b K V D gl gp y (actS l s).void w':=by
 obtain ⟨v,F,h1,h2,h3,h4⟩:=h.row;refine (sblk_act W b K V D s gl gp v l F h.ps hk h1 h.gp h2 h3 (λ g hg=>by have:=h4 g hg;omega) hbl hbp (λ hg=>by have:=h4 gl hg;omega) (λ hg=>by have:=h4 gp hg;omega) (by have:=h.len.2;have:=h.ps.ok.n;omega)).mono ?_;rintro e w' ⟨rfl,x,v',F',c1,c2,c3,c4,c5,c6,c7⟩;have hW:=h.ch.size
 have hact:actS l s=(actR s).bind λ x s'=>.ok (l++[x],true) s':=by unfold actS;rw [if_neg hk]
 refine ⟨rfl,l++[x],λ z bb s' e=>?_,?_,⟨v',F',c1,c3,c4,λ g hg=>?_⟩,h.ch.trans2 c7 (λ j hj hs=>?_),h.tx.ch c7 ?_,h.gp.ch c7 ?_,λ s' e=>?_,?_⟩
 ·rw [hact] at e;obtain ⟨y,s1,e1,e2⟩:=Rs.some e;have:=c2 y s1 e1;rw [this] at e2;exact (congrArg Prod.fst (Rs.ok.inj e2).1).symm
 ·rw [hact,bind_void];exact c6
 ·rcases c5 g hg with h'|h'
  ·exact h4 g h'
  ·have:=h.tx.lt;omega
 ·rcases hs with hs|hs|hs
  ·exact .inl hs
  ·exact .inr hs
  ·have:=h4 j hs;omega
 ·rintro (e|e|e)
  ·have:=h.ps.blt;omega
  ·omega
  ·have:=h4 _ e;omega
 ·rintro (e|e|e)
  ·omega
  ·omega
  ·have:=h4 _ e;omega
 ·rw [hact,bind_void] at e
  cases e1:actR s with
  |out=>rw [e1] at e;cases e
  |bad c p=>rw [e1] at e;cases e
  |ok y s1 =>
   rw [e1] at e;have:=(Rs.ok.inj e).2;subst this;have:=actR_takes s _ _ e1;have:=h.len.1 s rfl;rw [List.length_append,List.length_singleton];omega
 ·have:=h.len.1 s rfl;rw [List.length_append,List.length_singleton];omega
theorem act_tells:∀u∈[wSet,wRaise,wEmit],isKw u=true:=by decide
theorem sblock1_any (w:World) (b:Nat) (K:Kx) (V D:Int) (m:Rs Unit) (gl gp:Nat) (h:PS w b K V D m) (hgl:CB w gl 23 [.slice none 0 0]) (hgp:CB w gp 134 [.pointer (some ⟨b,0,none⟩)]) (hbl:b<gl) (hbp:b<gp) (hne:gl≠gp) :
  Calls Tryz.prog 186 #[.pointer (some ⟨gp,0,none⟩),.pointer (some ⟨gl,0,none⟩)] w λ e w'=>e=.returned (.tuple #[])/\∃l v F,(m.go (It actS [])).is l/\PS w' b K V D (m.go (It actS [])).void/\CB w' gl 23 [v]/\DvAt w' (dvActs true l) v F/\F.Nodup/\(∀g∈F,w.heap.size<=g)/\Ch (λ j=>j=b∨j=gl) w w':=by
 have hlw:=hgl.lt;have hpw:=hgp.lt
 have hE:∀args w,(callFunc 187 args).run Tryz.prog w=.ok (.enter 187 args) w:=λ _ _=>by kernel_rfl
 have HC:Hid (∀W,W=w.alloc (.cells #[.string ⟨#[115,101,116]⟩,.string ⟨#[114,97,105,115,101]⟩,.string ⟨#[101,109,105,116]⟩] 9)->Calls Tryz.prog 77 #[.pointer (some ⟨b,0,none⟩),.func (.func 187) #[] #[.pointer (some ⟨gl,0,none⟩),.pointer (some ⟨gp,0,none⟩)],.slice (some ⟨w.heap.size,0,none⟩) 3 3] W λ e w'=>e=.returned (.tuple #[])/\∃y,(m.go (It actS [])).is y/\BlkIv w b K V D gl gp y (m.go (It actS [])).void w'):=by
  rintro W rfl;have hb:Below w.heap.size w (w.alloc (.cells #[.string ⟨#[115,101,116]⟩,.string ⟨#[114,97,105,115,101]⟩,.string ⟨#[101,109,105,116]⟩] 9)):=(b_ _ w).alloc (n_ _) _;refine each_it b K D w.heap.size [wSet,wRaise,wEmit] _ _ hE actS actS_goes (BlkIv w b K V D gl gp) (λ x m w hi=>⟨V,hi.ps⟩) (λ x m w hi=>hi.tx) (λ x m w w' hi hb=>hi.below hb) ?_ ?_ ?_ [] m _ ?_ (by simp)
  ·intro x s t l hs hl hbg
   have hk:actK s.ts=0:=Classical.byContradiction λ h=>by
    have:=(word_bgn act_tells hs hl 1 (by decide)).2 h;rw [hbg] at this;cases this
   unfold actS;rw [if_pos hk]
  ·intro x s y s' t l hs hl hbg e;have hk:actK s.ts≠0:=(word_bgn act_tells hs hl 1 (by decide)).1 hbg;unfold actS at e;rw [if_neg hk] at e;obtain ⟨_,_,_,e2⟩:=Rs.some e;exact absurd (congrArg Prod.snd (Rs.ok.inj e2).1) (by simp)
  ·intro x s W hi hbg;obtain ⟨t,l,hs,hl,_⟩:=hi.ps.head rfl;exact hi.step ((word_bgn act_tells hs hl 1 (by decide)).1 hbg) hbl hbp hne hlw hpw
  ·refine ⟨h.below hb,⟨.slice none 0 0,[],hgl.below hb,?_,List.nodup_nil,λ g hg=>(by cases hg)⟩,Ch.of_below hb,CB.new w _ _,hgp.below hb,λ s e=>?_,Nat.zero_le _⟩
   ·unfold dvActs DvAt;exact ⟨[],[],World.ownsRow_nil _ 0 _ _,rfl,DvsAt.nil _⟩
   ·subst e;have:=h.left_le;simpa using this
 have y0:=hgp.c 0 rfl;clear h hgl hgp hE;go_enter Tryz.func186,Tryz.ntmps186;go_wp2_with fail;refine (HC.out _ rfl).mono ?_;rintro e w1 ⟨rfl,l,his,hiv⟩;have HIV:=h_ hiv;have HIS:=h_ his;clear hiv his HC y0;go_wp2_with fail;go_end0;obtain ⟨v,F,c1,c2,c3,c4⟩:=HIV.out.row;exact ⟨rfl,l,v,F,HIS.out,HIV.out.ps,c1,c2,c3,λ g hg=>Nat.le_of_lt (c4 g hg),HIV.out.ch⟩
theorem sblock_any (w:World) (b:Nat) (K:Kx) (V D:Int) (m:Rs Unit) (h:PS w b K V D m) :
  Calls Tryz.prog 155 #[.pointer (some ⟨b,0,none⟩)] w λ e w'=>∃l v,e=.returned v/\(m.go blockR).is l/\Rep w' w.heap.size [dvActs true l] [v]/\PS w' b K V D (m.go blockR).void/\Mv b w w':=by
 obtain ⟨gp,hgp⟩:∃g,g=w.heap.size:=⟨_,rfl⟩
 obtain ⟨gl,hgl⟩:∃g,g=w.heap.size+1:=⟨_,rfl⟩
 obtain ⟨W0,hW0⟩:∃W0,W0=(w.alloc (.cells #[.pointer (some ⟨b,0,none⟩)] 134)).alloc (.cells #[.slice none 0 0] 23):=⟨_,rfl⟩
 have hsz:(w.alloc (.cells #[.pointer (some ⟨b,0,none⟩)] 134)).heap.size=w.heap.size+1:=by simp
 have HGP:Hid (CB W0 gp 134 [.pointer (some ⟨b,0,none⟩)]):=by rw [hW0,hgp];exact (CB.new w _ [.pointer (some ⟨b,0,none⟩)]).alloc _
 have HGL:Hid (CB W0 gl 23 [.slice none 0 0]):=by rw [hW0,hgl,<-hsz];exact CB.new _ _ [.slice none 0 0]
 have HB0:Hid (Below w.heap.size w W0):=by rw [hW0];exact ((b_ _ w).alloc (n_ _) _).alloc (by simp) _
 have hbw:=h.blt
 have hbl:b<gl:=by omega
 have hbp:b<gp:=by omega
 have hne:gl≠gp:=by omega
 have hW0s:=HB0.out.size;have hglw:=HGL.out.lt
 have hglw2:w.heap.size<=gl:=by omega
 have HP:=h_ h
 have hE:∀args w,(callFunc 186 args).run Tryz.prog w=.ok (.enter 186 args) w:=λ _ _=>by kernel_rfl
 have HC:Hid (Calls Tryz.prog 75 #[.pointer (some ⟨b,0,none⟩),.func (.func 186) #[] #[.pointer (some ⟨gp,0,none⟩),.pointer (some ⟨gl,0,none⟩)]] W0 λ e w'=>e=.returned (.tuple #[])/\∃l v F,(m.go blockR).is l/\PS w' b K V D (m.go blockR).void/\CB w' gl 23 [v]/\DvAt w' (dvActs true l) v F/\F.Nodup/\(∀g∈F,w.heap.size<=g)/\Ch (λ j=>j=b∨j=gl) W0 w'):=by
  refine senclosed_any W0 b _ _ hE (λ W=>PS W b K V D (m.go (mustR 4 [123]))/\Mv b W0 W)
   (λ W=>∃l v F,((m.go (mustR 4 [123])).go (It actS [])).is l/\PS W b K V D ((m.go (mustR 4 [123])).go (It actS [])).void/\CB W gl 23 [v]/\DvAt W (dvActs true l) v F/\F.Nodup/\(∀g∈F,w.heap.size<=g/\gl<g)/\Ch (λ j=>j=b∨j=gl) W0 W) _ ?_ ?_ ?_
  ·exact sneed_any W0 b K V D m (h.below HB0.out) ⟨#[123]⟩ 4 (tells_sg (by decide)) (by decide)
  ·rintro W ⟨hp,hm⟩;have hs:=World.grownBy.size hm;refine (sblock1_any W b K V D _ gl gp hp (HGL.out.mv hm (by omega)) (HGP.out.mv hm (by omega)) hbl hbp hne).mono ?_;rintro e w' ⟨rfl,l,v,F,c1,c2,c3,c4,c5,c6,c7⟩;exact ⟨rfl,l,v,F,c1,c2,c3,c4,c5,λ g hg=>by have:=c6 g hg;omega,((Ch.of_mv hm).mono (λ _ _ h=>.inl h)).trans c7⟩
  ·rintro W ⟨l,v,F,c1,c2,c3,c4,c5,c6,c7⟩;refine (sneed_any W b K V D _ c2 ⟨#[125]⟩ 4 (tells_sg (by decide)) (by decide)).mono ?_;rintro e w' ⟨rfl,hp,hm⟩
   have hR:m.go blockR=(((m.go (mustR 4 [123])).go (It actS [])).void.go (mustR 4 [125])).go λ s=>.ok l s:=by
    have e1:m.go blockR=m.go λ s=>(mustR 4 [123] s).bind λ _ s1=>(It actS [] s1).bind λ y s2=>(mustR 4 [125] s2).bind λ _ s3=>.ok y s3:=by
     congr 1
     funext s
     exact block_eq s
    rw [e1,go_bind,unit_bind,go_bind,Rs.seq c1];exact (must_fin _ _).symm
   refine ⟨rfl,l,v,F,?_,?_,c3.mv hm (by omega),c4.ch (Ch.of_mv hm) (λ g hg e=>by have e':g=b:=e;have:=c6 g hg;omega),c5,λ g hg=>(c6 g hg).1,c7.trans ((Ch.of_mv hm).mono (λ _ _ h=>.inl h))⟩
   ·rw [hR];exact go_ok_is _ _
   ·rw [hR,go_ok_void];exact hp
 have y0:=HGP.out.c 0 rfl;clear h hE;go_enter Tryz.func155,Tryz.ntmps155;go_upto_region 2 with fail;rw [<-hW0,<-hgl,<-hgp];clear hW0 hgp hgl hsz;go_wp2_with fail;refine HC.out.mono ?_;rintro e w1 ⟨rfl,l,v,F,c1,c2,c3,c4,c5,c6,c7⟩;have HL:=h_ c3;have HR:=h_ (And.intro c1 (And.intro c2 (And.intro c4 (And.intro c5 (And.intro c6 c7)))));have z0:=c3.c 0 rfl;clear c1 c2 c3 c4 c5 c6 c7 HC y0;go_wp2_with fail;go_ret;obtain ⟨c1,c2,c4,c5,c6,c7⟩:=HR.out;refine ⟨l,v,rfl,c1,⟨F++[],DvsAt.cons c4 (DvsAt.nil _),by simpa using c5,λ g hg=>c6 g (by simpa using hg)⟩,c2,?_⟩;exact ((Ch.of_below HB0.out).trans2 c7 (λ j hj hs=>hs)).mv (λ k hk hs=>hs.elim id (λ e=>by omega))
end Go.Proofs.YtpgeidpfhakgaaaGreatDoor
