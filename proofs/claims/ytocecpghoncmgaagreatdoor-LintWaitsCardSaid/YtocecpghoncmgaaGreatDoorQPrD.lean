import Derived.Test.YtocecpghoncmgaaGreatDoorQh
import Derived.Test.YtocecpghoncmgaaGreatDoorYC
import Derived.Test.YtocecpghoncmgaaGreatDoorYD
import Derived.Test.YtocecpghoncmgaaGreatDoorQEA
import Derived.Test.YtocecpghoncmgaaGreatDoorQVaX
import Derived.Deep.QuietTactic
import Derived.BigQuiet
import Derived.StillTailTactics
import Derived.Deep.Slices
import Derived.SizedLaws
import Derived.OpenShut
import Derived.Test.YtocecpghoncmgaaGreatDoorQXA
import Derived.Lib.SlicesS
import Derived.Deep.RegionHeld3
import Derived.Laws.OwnMore
import Derived.Laws.AppendOwnNone
import Derived.ArgAppend
import Derived.Maps.AppendAt
import Derived.Deep.RegionLawGrows
set_option maxHeartbeats 12800000
set_option maxRecDepth 20000
namespace Go.Proofs.YtocecpghoncmgaaGreatDoor
open Go.RowKit
theorem DvsAt.vs (w:World):∀(l:List Value),(∀u∈l,u.oneCell'=true)->DvsAt w (l.map DV.v) l []
 |[],_=>DvsAt.nil w
 |u::l,h=>DvsAt.v (h u (by simp)) (DvsAt.vs w l (λ x hx=>h x (by simp [hx])))
theorem DvAt.last {w:World} {e:TypeId} {k n:Nat} {cs zds:List DV} {v:Value} {F:List Nat} (h:DvAt w (.row e k (n+1) (cs++zds)) v F) (hz:zds.length=k) (hF:F.Nodup) :
  ∃g c cur,v=.slice (some ⟨g,0,none⟩) (n+1) c/\CB w g e cur/\cur.length=c*k/\n+1<=c/\c<=maxLen/\g∈F /\
   ∀(w':World) (ds:List DV) (ys:List Value) (F2:List Nat),Ch (·=g) w w'->CB w' g e (cur.take (n*k)++ys++cur.drop (n*k+ys.length))->DvsAt w ds ys F2->ys.length=k->F2.Nodup->(∀a∈F,a∉F2) ->
    ∃F',DvAt w' (.row e k (n+1) (cs++ds)) v F'/\F'.Nodup/\∀j∈F',j∈F∨j∈F2:=by
 unfold DvAt at h;obtain ⟨xs,H,⟨h1,h2⟩,rfl,h3⟩:=h;rcases h2 with ⟨_,h2⟩|⟨g,c,cur,rfl,_,hg,hc1,hc2,hc3,hc4⟩
 ·omega
 obtain ⟨xs1,xs2,F1,F3,rfl,rfl,d1,d2⟩:=DvsAt.cut h3;have l2:xs2.length=k:=d2.len.trans hz;have e1:(n+1)*k=n*k+k:=Nat.succ_mul n k
 have l1:xs1.length=n*k:=by rw [List.length_append] at h1;omega
 have hle:(n+1)*k<=c*k:=Nat.mul_le_mul_right k hc1
 have lc:cur.toList.length=c*k:=by rw [Array.length_toList];exact hc3
 have ht:cur.toList.take (n*k)=xs1:=by
  have:=congrArg (List.take (n*k)) hc4;rw [List.take_take,Nat.min_eq_left (by omega),List.take_left' l1] at this;exact this
 refine ⟨g,c,cur.toList,rfl,by unfold CB;rw [Array.toArray_toList];exact hg,lc,hc1,hc2,by simp [Value.ownBlock],?_⟩;intro w' ds ys F2 hch hcb hd hl hn2 hdis
 have hgF:g∉F1++F3:=by
  rw [List.nodup_append] at hF;intro hh;exact hF.2.2 g (by simp [Value.ownBlock]) g hh rfl
 have hF1:F1.Nodup:=by
  rw [List.nodup_append] at hF;exact (List.nodup_append.1 hF.2.1).1
 refine ⟨g::(F1++F2),?_,?_,?_⟩
 ·unfold DvAt;refine ⟨xs1++ys,F1++F2,⟨by rw [List.length_append,l1,hl,e1],.inr ⟨g,c,(cur.toList.take (n*k)++ys++cur.toList.drop (n*k+ys.length)).toArray,rfl,Nat.zero_le _,hcb,hc1,hc2,?_,?_⟩⟩,by simp [Value.ownBlock],?_⟩
  ·simp only [List.size_toArray,List.length_append,List.length_take,List.length_drop,lc];omega
  ·show List.take _ (cur.toList.take (n*k)++ys++_)=_;rw [ht,List.take_left' (by rw [List.length_append,l1,hl,e1])]
  ·refine (d1.ch hch (λ a ha e=>hgF (by rw [<-(show a=g from e)];exact List.mem_append_left _ ha))).app (hd.ch hch (λ a ha e=>hdis g (by simp [Value.ownBlock]) (by rw [<-(show a=g from e)];exact ha)))
 ·rw [List.nodup_cons,List.nodup_append];refine ⟨λ hh=>?_,hF1,hn2,λ a ha a' ha' e=>?_⟩
  ·rcases List.mem_append.1 hh with hh|hh
   ·exact hgF (List.mem_append_left _ hh)
   ·exact hdis g (by simp [Value.ownBlock]) hh
  ·subst e;exact hdis a (by simp [ha]) ha'
 ·intro j hj;rcases List.mem_cons.1 hj with rfl|hj
  ·exact .inl (by simp [Value.ownBlock])
  ·rcases List.mem_append.1 hj with hj|hj
   ·exact .inl (by simp [hj])
   ·exact .inr hj
structure BIz (w0:World) (b gl:Nat) (T:TypeId) (vs:List Value) (Pp Pq:World->Prop) (e:TypeId) (k n:Nat) (cs:List DV) (v:Value) (F:List Nat) (pd:List DV->Prop) (zs:List Value) (ic ib ia p:Nat) (vals:Nat->Option Value) (W:World):Prop where
 ch:Ch (λ j=>j=b∨j∈F) w0 W
 p0:p=0->Pp W
 row:p<=1->DvAt W (.row e k n cs) v F
 cell:CB W gl T vs
 bl:∀u,vals ib=some u->∃gs,u=.slice (some ⟨gs,0,none⟩) 1 1/\w0.heap.size<=gs/\CB W gs e zs
 p1:1<=p->∃ys ds F2,vals ic=some (.agg ys.toArray)/\pd ds/\DvsAt W ds ys F2/\ys.length=k/\F2.Nodup/\(∀g∈F2,w0.heap.size<=g)/\Pq W /\
  (2<=p->∃v' F',vals ia=some v'/\DvAt W (.row e k (n+1) (cs++zs.map DV.v)) v' F'/\F'.Nodup/\(∀g∈F',g∈F∨w0.heap.size<=g)/\∀g∈F',g∉F2)
def BFz (w0:World) (b gl:Nat) (T:TypeId) (vs:List Value) (jl:Nat) (Pq:World->Prop) (e:TypeId) (k n:Nat) (cs:List DV) (F:List Nat) (pd:List DV->Prop) (zs:List Value) (ic ia il:Nat) (vals:Nat->Option Value) (W:World):Prop :=
 ∃ys ds F2 v' F',vals ic=some (.agg ys.toArray)/\vals ia=some v'/\vals il=some (.int .i64 (n:Int))/\CB W gl T (vs.set jl v')/\pd ds/\DvsAt W ds ys F2/\ys.length=k/\F2.Nodup/\(∀g∈F2,w0.heap.size<=g)/\Pq W /\
  DvAt W (.row e k (n+1) (cs++zs.map DV.v)) v' F'/\F'.Nodup/\(∀g∈F',g∈F∨w0.heap.size<=g)/\(∀g∈F',g∉F2)/\Ch (λ j=>j=b∨j=gl∨j∈F) w0 W
section
variable {w0 w w':World} {b gl:Nat} {T:TypeId} {vs:List Value} {Pp Pq:World->Prop} {e:TypeId} {k n:Nat} {cs:List DV} {v:Value} {F:List Nat} {pd:List DV->Prop} {zs:List Value} {ic ib ia p:Nat} {vals:Nat->Option Value}
theorem BIz.loc {vals':Nat->Option Value} (h:BIz w0 b gl T vs Pp Pq e k n cs v F pd zs ic ib ia p vals w) (h1:vals' ic=vals ic) (h2:vals' ib=vals ib) (h3:vals' ia=vals ia):BIz w0 b gl T vs Pp Pq e k n cs v F pd zs ic ib ia p vals' w :=
 ⟨h.ch,h.p0,h.row,h.cell,by rw [h2];exact h.bl,by rw [h1,h3];exact h.p1⟩
theorem BIz.zero (hs:Stays b Pp) (hp:Pp w0) (hr:DvAt w0 (.row e k n cs) v F) (hc:CB w0 gl T vs):BIz w0 b gl T vs Pp Pq e k n cs v F pd zs ic ib ia 0 (λ _=>none) w0.drew :=
 ⟨(Ch.refl _ w0).drew,λ _=>hs.below hp (b_ _ w0).drew,λ _=>hr.below (b_ _ w0).drew,hc,λ _ h=>by simp at h,λ h=>absurd h (by omega)⟩
theorem BIz.build (h:BIz w0 b gl T vs Pp Pq e k n cs v F pd zs ic ib ia p vals w) (hs0:Stays b Pp) (hs:Stays b Pq) (d1:ic≠ib) (d2:ia≠ib):BIz w0 b gl T vs Pp Pq e k n cs v F pd zs ic ib ia p (updV vals ib (.slice (some ⟨w.heap.size,0,none⟩) 1 1)) (w.alloc (.cells zs.toArray e)):=by
 have hb:Below w.heap.size w (w.alloc (.cells zs.toArray e)):=(b_ _ w).alloc (n_ _) _;refine ⟨h.ch.trans (Ch.of_below hb),λ e=>hs0.below (h.p0 e) hb,λ e=>(h.row e).below hb,h.cell.below hb,λ u hu=>?_,λ hp=>?_⟩
 ·rw [updV_same] at hu;exact ⟨w.heap.size,(Option.some.inj hu).symm,h.ch.size,CB.new w e zs⟩
 ·obtain ⟨ys,ds,F2,c1,c2,c3,c4,c5,c6,c7,c8⟩:=h.p1 hp;refine ⟨ys,ds,F2,by rw [updV_ne vals _ d1];exact c1,c2,c3.below hb,c4,c5,c6,hs.below c7 hb,λ hp2=>?_⟩;obtain ⟨v',F',a1,a2,a3,a4,a5⟩:=c8 hp2;exact ⟨v',F',by rw [updV_ne vals _ d2];exact a1,a2.below hb,a3,a4,a5⟩
theorem BIz.call (h:BIz w0 b gl T vs Pp Pq e k n cs v F pd zs ic ib ia 0 vals w) {ys:List Value} {ds:List DV} (hd:pd ds) (hr:Rep w' w.heap.size ds ys) (hl:ys.length=k) (hq:Pq w') (hm:Mv b w w') (hgl:gl≠b) (hF:b∉F) (hbw:b<w0.heap.size) (d1:ib≠ic):BIz w0 b gl T vs Pp Pq e k n cs v F pd zs ic ib ia 1 (updV vals ic (.agg ys.toArray)) w':=by
 obtain ⟨F2,f1,f2,f3⟩:=hr;refine ⟨h.ch.trans ((Ch.of_mv hm).mono (λ _ _ h=>.inl h)),λ e=>absurd e (by omega),λ _=>(h.row (by omega)).ch (Ch.of_mv hm) (λ g hg e=>hF (by rw [<-(show g=b from e)];exact hg)),h.cell.mv hm hgl,λ u hu=>?_,λ _=>⟨ys,ds,F2,updV_same _ _ _,hd,f1,hl,f2,λ g hg=>Nat.le_trans h.ch.size (f3 g hg),hq,λ e=>absurd e (by omega)⟩⟩;rw [updV_ne vals _ d1] at hu;obtain ⟨gs,a1,a2,a3⟩:=h.bl u hu;exact ⟨gs,a1,a2,a3.mv hm (by omega)⟩
theorem BIz.app (h:BIz w0 b gl T vs Pp Pq e k n cs v F pd zs ic ib ia 1 vals w) (P:Program) (t ty:TypeId) (z:Value) (bytes:Nat) (hinfo:(P.info? e).map (λ i=>(i.zero,i.size,i.bytes))=some (some z,k,bytes)) (h1:P.underlying t=some (.slice e)) (h6:z.cells.size=k) (hk:0<k) (hbt:bytes<=10000)
  {u:Value} (hgs:vals ib=some u) (hzl:zs.length=k) (hzo:∀u∈zs,u.oneCell'=true) (hn:n<=1000000) (hFn:F.Nodup) (hFl:∀g∈F,g<w0.heap.size/\b<g) (hgl:gl∉F) (hs:Stays b Pq) (d1:ic≠ia) (d2:ib≠ia) :
  ∃v' w',(Builtin.append_ #[t,t] ty #[v,u]).run P w=.ok v' w'/\BIz w0 b gl T vs Pp Pq e k n cs v F pd zs ic ib ia 2 (updV vals ia v') w':=by
 obtain ⟨i,hi,hz0,hz1,hz2⟩:=info_parts hinfo;obtain ⟨ys,ds,F2,c1,c2,c3,c4,c5,c6,c7,_⟩:=h.p1 (n_ _);obtain ⟨gs,rfl,c9,c10⟩:=h.bl u hgs;obtain ⟨v',w',F',hr,a1,a2,a3,a4⟩:=run_append_dv t ty e i z k bytes h1 hi hz0 hz1 hz2 h6 hk (h.row (n_ _)) hFn c10 (DvsAt.vs w zs hzo) hzl List.nodup_nil (λ a _ hb=>by cases hb) hn hbt
 have hdis:∀j,j<w0.heap.size∨w.heap.size<=j->j∉F2:=λ j hj hj'=>by
  have:=c3.lt j hj';have:=c6 j hj';omega
 refine ⟨v',w',hr,h.ch.trans (a4.mono (λ _ _ h=>.inr h)),λ e=>absurd e (by omega),λ e=>absurd e (by omega),h.cell.ch a4 hgl,λ u' hu=>?_,λ _=>⟨ys,ds,F2,by rw [updV_ne vals _ d1];exact c1,c2,c3.ch a4 (λ j hj hj'=>hdis j (.inl (hFl j hj').1) hj),c4,c5,c6,hs _ _ _ c7 a4 (λ k hk=>(hFl k hk).2),λ _=>⟨v',F',updV_same _ _ _,a1,a2,λ g hg=>?_,λ g hg=>?_⟩⟩⟩
 ·rw [updV_ne vals _ d2] at hu;obtain ⟨gs',e1,e2,e3⟩:=h.bl u' hu;exact ⟨gs',e1,e2,e3.ch a4 (λ hh=>by have:=(hFl _ hh).1;omega)⟩
 ·rcases a3 g hg with h'|h'|h'
  ·exact .inl h'
  ·cases h'
  ·exact .inr (Nat.le_trans h.ch.size h')
 ·rcases a3 g hg with h'|h'|h'
  ·exact hdis g (.inl (hFl g h').1)
  ·cases h'
  ·exact hdis g (.inr h')
theorem BIz.fin (h:BIz w0 b gl T vs Pp Pq e k n cs v F pd zs ic ib ia 2 vals w) (hs:Stays b Pq) {v':Value} (hv:vals ia=some v') {il:Nat} (hil:vals il=some (.int .i64 (n:Int))) (jl:Nat) (hbg:b<gl) (hgl:gl∉F) (hgw:gl<w0.heap.size) :
  BFz w0 b gl T vs jl Pq e k n cs F pd zs ic ia il vals (w.setCell ⟨gl,jl,none⟩ v'):=by
 obtain ⟨ys,ds,F2,c1,c2,c3,c4,c5,c6,c7,c8⟩:=h.p1 (by omega);obtain ⟨v2,F',a1,a2,a3,a4,a5⟩:=c8 (n_ _)
 obtain rfl:v'=v2:=by rw [hv] at a1;injection a1
 have hm:Mv gl w (w.setCell ⟨gl,jl,none⟩ v'):=(Mv.refl gl w).set jl v';refine ⟨ys,ds,F2,v',F',c1,hv,hil,h.cell.set jl v',c2,c3.ch (Ch.of_mv hm) (λ g hg e=>?_),c4,c5,c6,hs _ _ _ c7 (Ch.of_mv hm) (λ k e=>by have e':k=gl:=e;omega),a2.ch (Ch.of_mv hm) (λ g hg e=>?_),a3,a4,a5,(h.ch.mono (λ k _ hk=>?_)).trans ((Ch.of_mv hm).mono (λ k _ hk=>.inr (.inl hk)))⟩
 ·have e':g=gl:=e;subst e';have:=c6 g hg;omega
 ·have e':g=gl:=e;subst e';rcases a4 g hg with h'|h'
  ·exact hgl h'
  ·omega
 ·rcases hk with hk|hk
  ·exact .inl hk
  ·exact .inr (.inr hk)
theorem BFz.put {jl il:Nat} (h:BFz w0 b gl T vs jl Pq e k n cs F pd zs ic ia il vals w) (hs:Stays b Pq) (hzl:zs.length=k) (hFl:∀g∈F,g<w0.heap.size/\b<g) (hgl:gl∉F) (hgw:gl<w0.heap.size) (hbw:b<w0.heap.size) :
  ∃(ys:List Value) (g c:Nat) (cur:List Value),vals ic=some (.agg ys.toArray)/\ys.length=k/\(∀u∈ys,u.oneCell'=true)/\vals ia=some (.slice (some ⟨g,0,none⟩) (n+1) c)/\vals il=some (.int .i64 (n:Int))/\CB w g e cur/\n*k+k<=cur.length/\BFin w0 b gl T vs jl Pq e k n cs F pd (sets w g (n*k) ys):=by
 obtain ⟨ys,ds,F2,v',F',c1,c2,c3,c4,c5,c6,c7,c8,c9,c10,c11,c12,c13,c14,c15⟩:=h;obtain ⟨g,c,cur,rfl,d1,d2,d3,d4,d5,d6⟩:=c11.last (by rw [List.length_map];exact hzl) c12
 have hle:n*k+k<=cur.length:=by
  rw [d2,<-Nat.succ_mul];exact Nat.mul_le_mul_right k d3
 have hgg:b<g/\g≠gl/\(g∈F∨w0.heap.size<=g):=by
  rcases c13 g d5 with h'|h'
  ·exact ⟨(hFl g h').2,λ e=>hgl (by rw [<-e];exact h'),.inl h'⟩
  ·exact ⟨by omega,by omega,.inr h'⟩
 have hch:Ch (·=g) w (sets w g (n*k) ys):=Ch.many (S:=(·=g)) (.inl rfl) ys (n*k) (Ch.refl _ w);obtain ⟨F3,e1,e2,e3⟩:=d6 _ ds ys F2 hch (CB.many ys (n*k) d1 (by omega)) c6 c7 c8 c14;refine ⟨ys,g,c,cur,c1,c7,c6.ones,c2,c3,d1,hle,ds,_,F3,c4.ch hch (λ e=>hgg.2.1 e.symm),c5,e1,e2,λ j hj=>?_,hs _ _ _ c10 hch (λ k e=>by rw [show k=g from e];exact hgg.1),c15.trans2 hch (λ j hj e=>?_)⟩
 ·rcases e3 j hj with h'|h'
  ·exact c13 j h'
  ·exact .inr (c9 j h')
 ·rw [show j=g from e] at hj ⊢;rcases hgg.2.2 with h'|h'
  ·exact .inr (.inr h')
  ·omega
end
def kidWs:List (List UInt8):=[wState,wParallel,wHistory,wDeep]
def NodeC (b:Nat) (K:Kx) (D:Int) (d:Nat):Prop:=∀(w:World) (V:Int) (s:Ss),PS w b K V D (.ok () s)->bgn kidWs s=true ->
 Calls Tryz.prog 177 #[.pointer (some ⟨b,0,none⟩)] w λ e w'=>∃(x:SyNode) (ys:List Value),e=.returned (.agg ys.toArray)/\Rep w' w.heap.size (dvNode true x) ys/\ys.length=9/\(nodeR d s).is x/\PS w' b K V D (nodeR d s).void/\Mv b w w'
def kdF (b gn jn:Nat) (v:Value) (i:Nat) (_vals:Nat->Option Value) (u:Value):Prop:=match i with
 |0=>u=.pointer (some ⟨gn,jn,none⟩)
 |1=>u=.pointer (some ⟨gn,jn,none⟩)
 |2=>u=.pointer (some ⟨gn,jn,none⟩)
 |3=>u=.pointer (some ⟨gn,jn+7,none⟩)
 |4=>u=v
 |5=>u=.pointer (some ⟨b,0,none⟩)
 |6=>∃ys:List Value,u=.agg ys.toArray/\ys.length=9
 |7=>∃gs:Nat,u=.slice (some ⟨gs,0,none⟩) 1 1
 |9=>u=.pointer (some ⟨gn,jn,none⟩)
 |10=>u=.pointer (some ⟨gn,jn+7,none⟩)
 |_=>True
def kzF (b gn jn n:Nat) (v:Value) (i:Nat) (_vals:Nat->Option Value) (u:Value):Prop:=match i with
 |0=>u=.pointer (some ⟨gn,jn,none⟩)
 |1=>u=.pointer (some ⟨gn,jn,none⟩)
 |2=>u=.pointer (some ⟨gn,jn+7,none⟩)
 |3=>u=v
 |4=>u=.pointer (some ⟨b,0,none⟩)
 |5=>∃ys:List Value,u=.agg ys.toArray/\ys.length=9
 |6=>u=.int .i64 (n:Int)
 |9=>u=.pointer (some ⟨gn,jn,none⟩)
 |10=>u=.pointer (some ⟨gn,jn+7,none⟩)
 |_=>True
theorem kid_out {nd:Ss->Rs SyNode} {ki:List SyNode} {s:Ss} {y:SyNode} (hk:nodeK s.ts≠0) (his:(nd s).is y):kidS nd ki s=(nd s).void.go λ s'=>.ok (ki++[y],true) s':=by
 unfold kidS;rw [if_neg hk,Rs.seq his]
structure NSK (W:World) (gu gn jn gs base:Nat) (T:TypeId) (pre:List Value) (kc nmv dfv pv:Value) (x:SyB) (ki:List SyNode):Prop where
 ex:∃v1 v2 v3 v4 F1 F2 F3 F4,CB W gn T (pre++ndC kc nmv (txV x.initial) dfv v1 v2 v3 v4 pv)/\Q4 W base (dvActs true x.enter) (dvActs true x.leave) (dvMoves true x.moves) (dvKids true ki) v1 v2 v3 v4 F1 F2 F3 F4/\gu∉F4
 sn:CB W gs 219 [.bool x.hi,.bool x.he,.bool x.hl]
theorem NSK.ch {S:Nat->Prop} {W W':World} {gu gn jn gs base:Nat} {T:TypeId} {pre:List Value} {kc nmv dfv pv:Value} {x:SyB} {ki:List SyNode} (h:NSK W gu gn jn gs base T pre kc nmv dfv pv x ki) (hc:Ch S W W') (hn:¬S gn) (hg:¬S gs) (hs:∀g,base<=g->g<W.heap.size->¬S g):NSK W' gu gn jn gs base T pre kc nmv dfv pv x ki:=by
 obtain ⟨v1,v2,v3,v4,F1,F2,F3,F4,h1,h2,h3⟩:=h.ex;exact ⟨⟨v1,v2,v3,v4,F1,F2,F3,F4,h1.ch hc hn,h2.ch hc hs,h3⟩,h.sn.ch hc hg⟩
theorem NSK.below {W W':World} {gu gn jn gs base:Nat} {T:TypeId} {pre:List Value} {kc nmv dfv pv:Value} {x:SyB} {ki:List SyNode} (h:NSK W gu gn jn gs base T pre kc nmv dfv pv x ki) (hb:Below W.heap.size W W'):NSK W' gu gn jn gs base T pre kc nmv dfv pv x ki:=h.ch (Ch.of_below (S:=λ _=>False) hb) (λ h=>h) (λ h=>h) (λ _ _ _ h=>h)
theorem NS.k {W:World} {gn jn gs base:Nat} {T:TypeId} {pre:List Value} {kc nmv dfv pv:Value} {x:SyB} {ki:List SyNode} (h:NS W gn jn gs base T pre kc nmv dfv pv x ki):NSK W W.heap.size gn jn gs base T pre kc nmv dfv pv x ki:=by
 obtain ⟨v1,v2,v3,v4,F1,F2,F3,F4,h1,h2⟩:=h.ex;exact ⟨⟨v1,v2,v3,v4,F1,F2,F3,F4,h1,h2,λ hg=>Nat.lt_irrefl _ (h2.a4.lt _ hg)⟩,h.sn⟩
def KdEnd (w:World) (b:Nat) (K:Kx) (V D:Int) (d:Nat) (s:Ss) (gu gn jn gs base:Nat) (T:TypeId) (pre:List Value) (kc nmv dfv pv:Value) (x:SyB) (ki:List SyNode) (e:Ending) (w':World):Prop :=
 e=.returned (.tuple #[])/\∃y,(∀z bb s',kidS (nodeR d) ki s=.ok (z,bb) s'->z=y)/\PS w' b K V D (kidS (nodeR d) ki s).void/\NSK w' gu gn jn gs base T pre kc nmv dfv pv x y/\Ch (λ k=>k=b∨k=gn∨base<=k/\k≠gu) w w'/\y.length<=ki.length+1
theorem skid_any (w:World) (b:Nat) (K:Kx) (V D:Int) (d:Nat) (s:Ss) (gu gn jn gs gx gp base:Nat) (T:TypeId) (pre:List Value) (kc nmv dfv pv:Value) (x:SyB) (ki:List SyNode) (h:PS w b K V D (.ok () s)) (hN:NSK w gu gn jn gs base T pre kc nmv dfv pv x ki) (hpre:pre.length=jn)
  (hgx:CB w gx 182 [.pointer (some ⟨gn,jn,none⟩)]) (hgp:CB w gp 176 [.pointer (some ⟨b,0,none⟩)])
  (hkb:bgn kidWs s=true) (hnd:NodeC b K D d) (hbn:b<gn) (hbs:b<gs) (hns:gn≠gs) (hnB:gn<base) (hsB:gs<base) (hxB:gx<base) (hpB:gp<base) (hbx:b<gx) (hbp:b<gp) (hBw:base<=w.heap.size) (huw:gu<w.heap.size) (hmv:ki.length<=1000000) :
  Calls Tryz.prog 176 #[.pointer (some ⟨gx,0,none⟩),.pointer (some ⟨gp,0,none⟩)] w (KdEnd w b K V D d s gu gn jn gs base T pre kc nmv dfv pv x ki):=by
 have hk:nodeK s.ts≠0:=by
  obtain ⟨t,l,hs,hlt,_,_,_⟩:=h.head rfl;exact (word_bgn (l:=[wState,wParallel,wHistory,wDeep]) (by decide) hs hlt 1 (by decide)).1 hkb
 go_enter Tryz.func176,Tryz.ntmps176;go_upto_region 0 with fail
 go_cut [3] from 2 to 3 (λ s3 wr=>(s3=.bool true∨s3=.bool false)/\Hid (Below w.heap.size w wr))
 case first =>
  go_region
  all_goals
   go_wp2_with fail
   go_meet
   refine ⟨?_,h_ ((b_ _ w).alloc (n_ _) _).drew⟩;simp
 case rest =>
 obtain ⟨h3,HB⟩:=hcut
 obtain ⟨w1,hw1⟩:∃w1,w1=wc:=⟨_,rfl⟩
 subst hw1;have hb1:=HB.out;have hsz1:=hb1.size;replace h:=h.below hb1;replace hN:=hN.below hb1;replace hgx:=hgx.below hb1;replace hgp:=hgp.below hb1;obtain ⟨v1,v2,v3,v,F1,F2,F3,F,hcell,hq4,huF⟩:=hN.ex;have hsn:=hN.sn;have hs0:=stays_ps b K V D (.ok () s);have hs:=stays_ps b K V D (nodeR d s).void;have hp0:=h
 obtain ⟨cs,hcs⟩:∃cs,dvNodes true ki=cs:=⟨_,rfl⟩
 obtain ⟨n,hnn⟩:∃n,ki.length=n:=⟨_,rfl⟩
 have hE:∀y:SyNode,dvKids true (ki++[y])=.row 27 9 (n+1) (cs++dvNode true y):=λ y=>by unfold dvKids;rw [dvNodes_snoc,hcs,List.length_append,hnn];simp
 have hrow:DvAt w1 (.row 27 9 n cs) v F:=by rw [<-hcs,<-hnn];exact hq4.a4
 have hn:n<=1000000:=by omega
 have hFn:=hq4.n4;have hFB:=hq4.l4
 have hFl:∀g∈F,g<w1.heap.size/\b<g:=λ g hg=>⟨hrow.lt g hg,by have:=hFB g hg;omega⟩
 have hglw:=hcell.lt;have hbw:=h.blt;have hbg:=hbn
 have hbF:b∉F:=λ hb=>by have:=hFB b hb;omega
 have hglF:gn∉F:=λ hb=>by have:=hFB gn hb;omega
 have hgxF:¬(gx=b∨gx∈F):=λ hh=>hh.elim (λ e=>by omega) (λ hb=>by have:=hFB gx hb;omega);have hgpF:¬(gp=b∨gp∈F):=λ hh=>hh.elim (λ e=>by omega) (λ hb=>by have:=hFB gp hb;omega)
 have hvs:∃A c,v=.slice A n c:=by obtain ⟨A,c,e,_⟩:=hrow.slice;exact ⟨A,c,e⟩
 have hend:∀(W:World) (y:SyNode) (v':Value) (F':List Nat),CB W gn T (pre++(ndC kc nmv (txV x.initial) dfv v1 v2 v3 v pv).set 7 v')->(nodeR d s).is y->DvAt W (.row 27 9 (n+1) (cs++dvNode true y)) v' F'->F'.Nodup->(∀g∈F',g∈F∨w1.heap.size<=g)->PS W b K V D (nodeR d s).void->Ch (λ j=>j=b∨j=gn∨j∈F) w1 W->KdEnd w b K V D d s gu gn jn gs base T pre kc nmv dfv pv x ki (.returned (.tuple #[])) W:=λ W y v' F' a1 a2 a3 a4 a5 a6 a7=>by
  have hout:=kid_out (ki:=ki) hk a2
  have hd:∀k,k<w1.heap.size->(k=b∨k=gn∨k∈F)->base<=k->k∈F:=λ k _ h hb=>by
   rcases h with h|h|h
   ·omega
   ·omega
   ·exact h
  refine ⟨rfl,ki++[y],λ z bb s' e=>?_,?_,⟨⟨v1,v2,v3,v',F1,F2,F3,F',a1,?_,λ hg=>(a5 _ hg).elim huF (λ hh=>absurd hh (by omega))⟩,hsn.ch a7 ?_⟩,?_,by simp⟩
  ·rw [hout] at e;exact congrArg Prod.fst (go_ok_is _ _ _ _ e)
  ·rw [hout,go_ok_void];exact a6
  ·exact hq4.up4 a7 (λ g hg hlt h=>hd g hlt h hg) (by rw [hE];exact a3) a4 a5 (by omega)
  ·rintro (e|e|e)
   ·omega
   ·omega
   ·have:=hFB _ e;omega
  ·exact (Ch.of_below hb1).trans2 a7 (λ j hj hs=>by
    rcases hs with e|e|e
    ·exact .inl e
    ·exact .inr (.inl e)
    ·exact .inr (.inr ⟨hFB j e,λ e'=>huF (by rw [<-e'];exact e)⟩))
 clear hq4 hN HB hb1 hsn;obtain ⟨A0,c0,hvs⟩:=hvs;have HVS:=h_ hvs;clear hvs;rcases h3 with h3|h3
 ·subst h3;go_upto_region 1 with fail
  refine region_mix _ _ _ (by kernel_rfl) 11 rfl (by kernel_rfl) (by kernel_rfl) (λ i=>match i with|1=>[0]|2=>[1]|3=>[2]|5=>[4]|6=>[3]|8=>[3,7,5]|9=>[0]|10=>[9]|11=>[10,8]|_=>[]) (by kernel_rfl) (by kernel_rfl)
   (λ i=>match i with|5=>some 0|8=>some 1|11=>some 2|_=>none) (λ i=>i==7) 2 rfl (by kernel_rfl)
   (kzF b gn jn n v) ?_ (λ p vals W=>BIz w1 b gn T (pre++ndC kc nmv (txV x.initial) dfv v1 v2 v3 v pv) (λ W=>PS W b K V D (.ok () s)) (λ W=>PS W b K V D (nodeR d s).void) 27 9 n cs v F (λ ds=>∃y:SyNode,ds=dvNode true y/\(nodeR d s).is y) zNode 5 7 8 p vals W)
   (λ vals wr=>BFz w1 b gn T (pre++ndC kc nmv (txV x.initial) dfv v1 v2 v3 v pv) (jn+7) (λ W=>PS W b K V D (nodeR d s).void) 27 9 n cs F (λ ds=>∃y:SyNode,ds=dvNode true y/\(nodeR d s).is y) zNode 5 8 6 vals wr)
   (λ p vals vals' W hl hI=>hI.loc (hl _ (.inl rfl)) (hl _ (.inr rfl)) (hl _ (.inl rfl))) (BIz.zero hs0 hp0 hrow hcell) ?_ ?_ ?_ ?_ ?_
  ·intro j vals vals' u hext hF;exact hF
  ·intro i o hi hrk hal ho a vals w p hpN hI hbase hdep
   have hi':i=0∨i=1∨i=2∨i=3∨i=4∨i=5∨i=6∨i=7∨i=8∨i=9∨i=10:=by omega
   rcases hi' with rfl|rfl|rfl|rfl|rfl|rfl|rfl|rfl|rfl|rfl|rfl
   ·have hp:a.tmps[0]?.getD undef=Value.pointer (some ⟨gx,0,none⟩):=ev_get2 (hbase 0 (by kernel_rfl));have y0:=(hgx.ch hI.ch hgxF).c 0 rfl;simp only [t_,z_,j_] at ho;subst ho;unfold Oper.wp;go_simp;exact ⟨_,rfl,rfl,rfl⟩
   ·have h0:a.tmps[4]?.getD undef=Value.pointer (some ⟨gn,jn,none⟩):=ev_get2 (show a.eval (.tmp 4)=Value.pointer (some ⟨gn,jn,none⟩) from (hdep 0 (by simp)).1);simp only [t_,s_,z_,j_] at ho;subst ho;unfold Oper.wp;go_simp;exact ⟨_,rfl,rfl,rfl⟩
   ·have h1:a.tmps[5]?.getD undef=Value.pointer (some ⟨gn,jn,none⟩):=ev_get2 (show a.eval (.tmp 5)=Value.pointer (some ⟨gn,jn,none⟩) from (hdep 1 (by simp)).1);simp only [t_,s_,z_,j_] at ho;subst ho;unfold Oper.wp;go_simp;exact ⟨_,rfl,rfl,rfl⟩
   ·have h2:a.tmps[6]?.getD undef=Value.pointer (some ⟨gn,jn+7,none⟩):=ev_get2 (show a.eval (.tmp 6)=Value.pointer (some ⟨gn,jn+7,none⟩) from (hdep 2 (by simp)).1);have y0:=hI.cell.c (jn+7) (pre_get hpre rfl);simp only [t_,s_,z_,j_] at ho;subst ho;unfold Oper.wp;go_simp;exact ⟨_,rfl,rfl,rfl⟩
   ·have hp:a.tmps[1]?.getD undef=Value.pointer (some ⟨gp,0,none⟩):=ev_get2 (hbase 1 (by kernel_rfl));have y0:=(hgp.ch hI.ch hgpF).c 0 rfl;simp only [t_,s_,z_,j_] at ho;subst ho;unfold Oper.wp;go_simp;exact ⟨_,rfl,rfl,rfl⟩
   ·cases hrk
   ·have h3:a.tmps[7]?.getD undef=v:=ev_get2 (show a.eval (.tmp 7)=v from (hdep 3 (by simp)).1);rw [HVS.out] at h3;simp only [t_,s_,z_,j_] at ho;subst ho;unfold Oper.wp;go_simp;exact ⟨_,rfl,rfl,rfl⟩
   ·cases hal
   ·cases hrk
   ·have h0:a.tmps[4]?.getD undef=Value.pointer (some ⟨gn,jn,none⟩):=ev_get2 (show a.eval (.tmp 4)=Value.pointer (some ⟨gn,jn,none⟩) from (hdep 0 (by simp)).1);simp only [t_,s_,z_,j_] at ho;subst ho;unfold Oper.wp;go_simp;exact ⟨_,rfl,rfl,rfl⟩
   ·have h9:a.tmps[13]?.getD undef=Value.pointer (some ⟨gn,jn,none⟩):=ev_get2 (show a.eval (.tmp 13)=Value.pointer (some ⟨gn,jn,none⟩) from (hdep 9 (by simp)).1);simp only [t_,s_,z_,j_] at ho;subst ho;unfold Oper.wp;go_simp;exact ⟨_,rfl,rfl,rfl⟩
  ·intro i o hi hrk hal ho a vals w2 p hpN hI hv hcl
   have hi':i=0∨i=1∨i=2∨i=3∨i=4∨i=5∨i=6∨i=7∨i=8∨i=9∨i=10:=by omega
   rcases hi' with rfl|rfl|rfl|rfl|rfl|rfl|rfl|rfl|rfl|rfl|rfl
   ·cases hal
   ·cases hal
   ·cases hal
   ·cases hal
   ·cases hal
   ·cases hrk
   ·cases hal
   ·have hIb:=hI.build hs0 hs (by decide) (by decide);simp only [t_,s_,z_,j_] at ho;subst ho;unfold Oper.wp;go_simp;exact ⟨_,rfl,trivial,hIb⟩
   ·cases hrk
   ·cases hal
   ·cases hal
  ·intro i o r' hi hrk ho a vals w2 hI hbase hdep hv hcl
   have hi':i=0∨i=1∨i=2∨i=3∨i=4∨i=5∨i=6∨i=7∨i=8∨i=9∨i=10:=by omega
   rcases hi' with rfl|rfl|rfl|rfl|rfl|rfl|rfl|rfl|rfl|rfl|rfl
   ·cases hrk
   ·cases hrk
   ·cases hrk
   ·cases hrk
   ·cases hrk
   ·obtain rfl:r'=0:=by injection hrk with hrk;exact hrk.symm
    have h4:a.tmps[8]?.getD undef=Value.pointer (some ⟨b,0,none⟩):=ev_get2 (show a.eval (.tmp 8)=Value.pointer (some ⟨b,0,none⟩) from (hdep 4 (by simp)).1);have HC:=hnd w2 V s (hI.p0 rfl) hkb;simp only [t_,s_,z_,j_] at ho;subst ho;unfold Oper.wp;go_simp;refine HC.mono ?_;rintro e w' ⟨y,ys,rfl,hrp,hl,his,hp,hm⟩;exact ⟨_,rfl,⟨ys,rfl,hl⟩,hI.call ⟨y,rfl,his⟩ hrp hl hp hm (by omega) hbF hbw (by decide)⟩
   ·cases hrk
   ·cases hrk
   ·obtain rfl:r'=1:=by injection hrk with hrk;exact hrk.symm
    have h3:a.eval (.tmp 7)=v:=(hdep 3 (by simp)).1;have hv7:=(hdep 7 (by simp)).2
    obtain ⟨u7,hu7⟩:∃u,a.eval (.tmp 11)=u:=⟨_,rfl⟩
    replace hv7:vals 7=some u7:=by rw [<-hu7];exact hv7
    obtain ⟨v',w',hr,hI'⟩:=hI.app Tryz.prog 25 25 _ _ infoNode Tryz.underlying25 rfl (by decide) (by decide) hv7 rfl (by decide) hn hFn hFl hglF hs (by decide) (by decide);simp only [t_,s_,z_,j_] at ho;subst ho;unfold Oper.wp;simp only [execOp,resolve,invoke,builtin,Sem.run_bind,Sem.run_pure,Result.andThen_ok,List.map_toArray,List.map_cons,List.map_nil,h3,hu7,hr];exact ⟨_,rfl,trivial,hI'⟩
   ·cases hrk
   ·cases hrk
  ·intro o ho a vals w2 hI hbase hdep hall hF;have h10:a.tmps[14]?.getD undef=Value.pointer (some ⟨gn,jn+7,none⟩):=ev_get2 (show a.eval (.tmp 14)=Value.pointer (some ⟨gn,jn+7,none⟩) from (hdep 10 (by simp)).1);obtain ⟨v',hva⟩:=x_ (Option.isSome_iff_ne_none.2 (hall 8 (by omega)));obtain ⟨v6,hv6⟩:=x_ (Option.isSome_iff_ne_none.2 (hall 6 (by omega)));have hv6':v6=.int .i64 (n:Int):=hF 6 _ hv6;rw [hv6'] at hv6;have hv4:=(hdep 8 (by simp)).2;rw [hva] at hv4;have h8:a.tmps[12]?.getD undef=v':=ev_get2 (show a.eval (.tmp 12)=v' from (Option.some.inj hv4).symm);have y0:=hI.cell.c (jn+7) (pre_get hpre rfl);have f0:=hI.cell.fr (jn+7);obtain ⟨_,_,_,_,_,_,_,_,_,_,c8⟩:=hI.p1 (by omega);obtain ⟨_,_,c1,c3,_⟩:=c8 (n_ _);rw [hva] at c1;obtain rfl:=Option.some.inj c1;obtain ⟨A',c',hsl,_,_⟩:=c3.slice;subst hsl;have hfin:=hI.fin hs hva hv6 (jn+7) hbn hglF hglw;simp only [t_,s_,z_,j_] at ho;subst ho;unfold Oper.wp;go_simp;exact ⟨.tuple #[],rfl,λ vals' hv=>by obtain ⟨ys,ds,F2,v',F',c1,c2,c3,c4⟩:=hfin;exact ⟨ys,ds,F2,v',F',(hv 5 (by omega)).trans c1,(hv 8 (by omega)).trans c2,(hv 6 (by omega)).trans c3,c4⟩⟩
  ·intro vals W hF hall;obtain ⟨ys,g,c,cur,z1,z2,zo,z3,z4,z5,z6,z7⟩:=hF.put hs rfl hFl hglF hglw hbw;clear hF;obtain ⟨v0,h0⟩:=x_ (hall 0 (by omega));obtain ⟨v1,h1⟩:=x_ (hall 1 (by omega));obtain ⟨v2,h2⟩:=x_ (hall 2 (by omega));obtain ⟨v3,h3⟩:=x_ (hall 3 (by omega));obtain ⟨v4,h4⟩:=x_ (hall 4 (by omega));have h5:=z1;have h6:=z4;obtain ⟨v7,h7⟩:=x_ (hall 7 (by omega));have h8:=z3;obtain ⟨v9,h9⟩:=x_ (hall 9 (by omega));obtain ⟨v10,h10⟩:=x_ (hall 10 (by omega));obtain ⟨v11,h11⟩:=x_ (hall 11 (by omega));simp only [puts,put1,show List.range (11+1)=[0,1,2,3,4,5,6,7,8,9,10,11] from rfl,List.foldl_cons,List.foldl_nil,h0,h1,h2,h3,h4,h5,h6,h7,h8,h9,h10,h11,t_,s_,z_,Act.put,u_,v_,k_];clear h0 h1 h2 h3 h4 h5 h6 h7 h8 h9 h10 h11 hall;obtain ⟨y0,y1,y2,y3,y4,y5,y6,y7,y8,rfl⟩:=cells9 z2;clear z1 z3 z4;have st:∀y∈[y0,y1,y2,y3,y4,y5,y6,y7,y8],∀(w:World) (a:Addr),(store a y).run Tryz.prog w=stored Tryz.prog w a y .plain:=λ y hy w a=>run_store _ w a y .plain (zo y hy);have s0:=st y0 (by simp);have s1:=st y1 (by simp);have s2:=st y2 (by simp);have s3:=st y3 (by simp);have s4:=st y4 (by simp);have s5:=st y5 (by simp);have s6:=st y6 (by simp);have s7:=st y7 (by simp);have s8:=st y8 (by simp);clear st zo z2
   have hoff:∀i,i<9->∃u,W.cell? ⟨g,n*9+i,none⟩=some u:=λ i hi=>by
    have hlt:n*9+i<cur.length:=by omega
    exact ⟨_,z5.c (n*9+i) (List.getElem?_eq_getElem hlt)⟩
   obtain ⟨u0,x0⟩:=hoff 0 (by omega);obtain ⟨u1,x1⟩:=hoff 1 (by omega);obtain ⟨u2,x2⟩:=hoff 2 (by omega);obtain ⟨u3,x3⟩:=hoff 3 (by omega);obtain ⟨u4,x4⟩:=hoff 4 (by omega);obtain ⟨u5,x5⟩:=hoff 5 (by omega);obtain ⟨u6,x6⟩:=hoff 6 (by omega);obtain ⟨u7,x7⟩:=hoff 7 (by omega);obtain ⟨u8,x8⟩:=hoff 8 (by omega);have fz:=λ i=>z5.fr (n*9+i);have f0:=fz 0;have f1:=fz 1;have f2:=fz 2;have f3:=fz 3;have f4:=fz 4;have f5:=fz 5;have f6:=fz 6;have f7:=fz 7;have f8:=fz 8;clear fz hoff z5 z6;simp only [sets,Nat.add_assoc,Nat.reduceAdd] at z7;simp only [Nat.add_zero] at x0 f0;go_wp2_with fail;go_end0;obtain ⟨_,v',F',a1,⟨y,rfl,a2⟩,a3,a4,a5,a6,a7⟩:=z7;rw [pre_set hpre] at a1;exact hend _ y v' F' a1 a2 a3 a4 a5 a6 a7
 ·subst h3;go_upto_region 3 with fail
  refine region_mix _ _ _ (by kernel_rfl) 11 rfl (by kernel_rfl) (by kernel_rfl) (λ i=>match i with|2=>[1]|3=>[2]|4=>[3]|6=>[5]|7=>[6]|8=>[4,7]|9=>[0]|10=>[9]|11=>[10,8]|_=>[]) (by kernel_rfl) (by kernel_rfl)
   (λ i=>match i with|6=>some 0|7=>some 1|8=>some 2|11=>some 3|_=>none) (λ _=>false) 3 rfl (by kernel_rfl)
   (kdF b gn jn v) ?_ (λ p vals W=>BIv w1 b gn T (pre++ndC kc nmv (txV x.initial) dfv v1 v2 v3 v pv) (λ W=>PS W b K V D (.ok () s)) (λ W=>PS W b K V D (nodeR d s).void) 27 9 n cs v F (λ ds=>∃y:SyNode,ds=dvNode true y/\(nodeR d s).is y) (λ u ys=>u=.agg ys.toArray) 6 7 8 p vals W)
   (λ _ wr=>BFin w1 b gn T (pre++ndC kc nmv (txV x.initial) dfv v1 v2 v3 v pv) (jn+7) (λ W=>PS W b K V D (nodeR d s).void) 27 9 n cs F (λ ds=>∃y:SyNode,ds=dvNode true y/\(nodeR d s).is y) wr)
   (λ p vals vals' W hl hI=>hI.loc (hl _ (.inl rfl)) (hl _ (.inl rfl)) (hl _ (.inl rfl))) (BIv.zero hs0 hp0 hrow hcell) ?_ ?_ ?_ ?_ ?_
  ·intro j vals vals' u hext hF;exact hF
  ·intro i o hi hrk hal ho a vals w p hpN hI hbase hdep
   have hi':i=0∨i=1∨i=2∨i=3∨i=4∨i=5∨i=6∨i=7∨i=8∨i=9∨i=10:=by omega
   rcases hi' with rfl|rfl|rfl|rfl|rfl|rfl|rfl|rfl|rfl|rfl|rfl
   ·have hp:a.tmps[0]?.getD undef=Value.pointer (some ⟨gx,0,none⟩):=ev_get2 (hbase 0 (by kernel_rfl));have y0:=(hgx.ch hI.ch hgxF).c 0 rfl;simp only [t_,z_,j_] at ho;subst ho;unfold Oper.wp;go_simp;exact ⟨_,rfl,rfl,rfl⟩
   ·have hp:a.tmps[0]?.getD undef=Value.pointer (some ⟨gx,0,none⟩):=ev_get2 (hbase 0 (by kernel_rfl));have y0:=(hgx.ch hI.ch hgxF).c 0 rfl;simp only [t_,s_,z_,j_] at ho;subst ho;unfold Oper.wp;go_simp;exact ⟨_,rfl,rfl,rfl⟩
   ·have h1:a.tmps[17]?.getD undef=Value.pointer (some ⟨gn,jn,none⟩):=ev_get2 (show a.eval (.tmp 17)=Value.pointer (some ⟨gn,jn,none⟩) from (hdep 1 (by simp)).1);simp only [t_,s_,z_,j_] at ho;subst ho;unfold Oper.wp;go_simp;exact ⟨_,rfl,rfl,rfl⟩
   ·have h2:a.tmps[18]?.getD undef=Value.pointer (some ⟨gn,jn,none⟩):=ev_get2 (show a.eval (.tmp 18)=Value.pointer (some ⟨gn,jn,none⟩) from (hdep 2 (by simp)).1);simp only [t_,s_,z_,j_] at ho;subst ho;unfold Oper.wp;go_simp;exact ⟨_,rfl,rfl,rfl⟩
   ·have h3:a.tmps[19]?.getD undef=Value.pointer (some ⟨gn,jn+7,none⟩):=ev_get2 (show a.eval (.tmp 19)=Value.pointer (some ⟨gn,jn+7,none⟩) from (hdep 3 (by simp)).1);have y0:=hI.cell.c (jn+7) (pre_get hpre rfl);simp only [t_,s_,z_,j_] at ho;subst ho;unfold Oper.wp;go_simp;exact ⟨_,rfl,rfl,rfl⟩
   ·have hp:a.tmps[1]?.getD undef=Value.pointer (some ⟨gp,0,none⟩):=ev_get2 (hbase 1 (by kernel_rfl));have y0:=(hgp.ch hI.ch hgpF).c 0 rfl;simp only [t_,s_,z_,j_] at ho;subst ho;unfold Oper.wp;go_simp;exact ⟨_,rfl,rfl,rfl⟩
   ·cases hrk
   ·cases hrk
   ·cases hrk
   ·have h0:a.tmps[16]?.getD undef=Value.pointer (some ⟨gn,jn,none⟩):=ev_get2 (show a.eval (.tmp 16)=Value.pointer (some ⟨gn,jn,none⟩) from (hdep 0 (by simp)).1);simp only [t_,s_,z_,j_] at ho;subst ho;unfold Oper.wp;go_simp;exact ⟨_,rfl,rfl,rfl⟩
   ·have h9:a.tmps[25]?.getD undef=Value.pointer (some ⟨gn,jn,none⟩):=ev_get2 (show a.eval (.tmp 25)=Value.pointer (some ⟨gn,jn,none⟩) from (hdep 9 (by simp)).1);simp only [t_,s_,z_,j_] at ho;subst ho;unfold Oper.wp;go_simp;exact ⟨_,rfl,rfl,rfl⟩
  ·intro i o hi hrk hal;cases hal
  ·intro i o r' hi hrk ho a vals w2 hI hbase hdep hv hcl
   have hi':i=0∨i=1∨i=2∨i=3∨i=4∨i=5∨i=6∨i=7∨i=8∨i=9∨i=10:=by omega
   rcases hi' with rfl|rfl|rfl|rfl|rfl|rfl|rfl|rfl|rfl|rfl|rfl
   ·cases hrk
   ·cases hrk
   ·cases hrk
   ·cases hrk
   ·cases hrk
   ·cases hrk
   ·obtain rfl:r'=0:=by injection hrk with hrk;exact hrk.symm
    have h5:a.tmps[21]?.getD undef=Value.pointer (some ⟨b,0,none⟩):=ev_get2 (show a.eval (.tmp 21)=Value.pointer (some ⟨b,0,none⟩) from (hdep 5 (by simp)).1);have HC:=hnd w2 V s (hI.p0 rfl) hkb;simp only [t_,s_,z_,j_] at ho;subst ho;unfold Oper.wp;go_simp;refine HC.mono ?_;rintro e w' ⟨y,ys,rfl,hrp,hl,his,hp,hm⟩;exact ⟨_,rfl,⟨ys,rfl,hl⟩,hI.call (u:=.agg ys.toArray) rfl ⟨y,rfl,his⟩ hrp hl hp hm (by omega) hbF⟩
   ·obtain rfl:r'=1:=by injection hrk with hrk;exact hrk.symm
    obtain ⟨u,ys,c1,rfl,hl,hIb⟩:=hI.build hs (by decide);have h6:=(hdep 6 (by simp)).2;rw [c1] at h6;replace h6:a.tmps[22]?.getD undef=_:=ev_get2 (Option.some.inj h6).symm;obtain ⟨y0,y1,y2,y3,y4,y5,y6,y7,y8,rfl⟩:=cells9 hl;simp only [t_,s_,z_,j_] at ho;subst ho;unfold Oper.wp;go_simp;exact ⟨_,rfl,⟨_,rfl⟩,hIb⟩
   ·obtain rfl:r'=2:=by injection hrk with hrk;exact hrk.symm
    have h4:a.eval (.tmp 20)=v:=(hdep 4 (by simp)).1;obtain ⟨gs,h7⟩:=(hdep 7 (by simp)).1
    have hv3:vals 7=some (.slice (some ⟨gs,0,none⟩) 1 1):=by rw [(hdep 7 (by simp)).2];exact congrArg some h7
    replace h7:a.eval (.tmp 23)=_:=h7;obtain ⟨v',w',hr,hI'⟩:=hI.app Tryz.prog 25 25 _ _ infoNode Tryz.underlying25 rfl (by decide) (by decide) hv3 hn hFn hFl hglF hs;simp only [t_,s_,z_,j_] at ho;subst ho;unfold Oper.wp;simp only [execOp,resolve,invoke,builtin,Sem.run_bind,Sem.run_pure,Result.andThen_ok,List.map_toArray,List.map_cons,List.map_nil,h4,h7,hr];exact ⟨_,rfl,trivial,hI'⟩
   ·cases hrk
   ·cases hrk
  ·intro o ho a vals w2 hI hbase hdep hall hF;have h10:a.tmps[26]?.getD undef=Value.pointer (some ⟨gn,jn+7,none⟩):=ev_get2 (show a.eval (.tmp 26)=Value.pointer (some ⟨gn,jn+7,none⟩) from (hdep 10 (by simp)).1);obtain ⟨v',hva⟩:=x_ (Option.isSome_iff_ne_none.2 (hall 8 (by omega)));have hv4:=(hdep 8 (by simp)).2;rw [hva] at hv4;have h8:a.tmps[24]?.getD undef=v':=ev_get2 (show a.eval (.tmp 24)=v' from (Option.some.inj hv4).symm);have y0:=hI.cell.c (jn+7) (pre_get hpre rfl);have f0:=hI.cell.fr (jn+7);obtain ⟨_,_,_,c1,_,c3,_,_,_⟩:=hI.p3 (n_ _);rw [hva] at c1;obtain rfl:=Option.some.inj c1;obtain ⟨A',c',hsl,_,_⟩:=c3.slice;subst hsl;have hfin:=hI.fin hs hva (jn+7) hbg hglF hglw;simp only [t_,s_,z_,j_] at ho;subst ho;unfold Oper.wp;go_simp;exact ⟨.tuple #[],rfl,λ _ _=>hfin⟩
  ·intro vals W hF hall;obtain ⟨v0,h0⟩:=x_ (hall 0 (by omega));obtain ⟨v1,h1⟩:=x_ (hall 1 (by omega));obtain ⟨v2,h2⟩:=x_ (hall 2 (by omega));obtain ⟨v3,h3⟩:=x_ (hall 3 (by omega));obtain ⟨v4,h4⟩:=x_ (hall 4 (by omega));obtain ⟨v5,h5⟩:=x_ (hall 5 (by omega));obtain ⟨v6,h6⟩:=x_ (hall 6 (by omega));obtain ⟨v7,h7⟩:=x_ (hall 7 (by omega));obtain ⟨v8,h8⟩:=x_ (hall 8 (by omega));obtain ⟨v9,h9⟩:=x_ (hall 9 (by omega));obtain ⟨v10,h10⟩:=x_ (hall 10 (by omega));obtain ⟨v11,h11⟩:=x_ (hall 11 (by omega));simp only [puts,put1,show List.range (11+1)=[0,1,2,3,4,5,6,7,8,9,10,11] from rfl,List.foldl_cons,List.foldl_nil,h0,h1,h2,h3,h4,h5,h6,h7,h8,h9,h10,h11,t_,s_,z_,Act.put,u_,v_,k_];clear h0 h1 h2 h3 h4 h5 h6 h7 h8 h9 h10 h11 hall;go_wp2_with fail;go_end0;obtain ⟨_,v',F',a1,⟨y,rfl,a2⟩,a3,a4,a5,a6,a7⟩:=hF;rw [pre_set hpre] at a1;exact hend _ y v' F' a1 a2 a3 a4 a5 a6 a7
def clWs:List (List UInt8):=[wInitial,wEnter,wLeave,wOn,wAlways,wAfter]
theorem clWs_kw:∀u∈clWs,isKw u=true:=by decide
theorem kidWs_kw:∀u∈kidWs,isKw u=true:=by decide
theorem bgn_no {us:List (List UInt8)} (hk:∀u∈us,isKw u=true) {s:Ss} {t:Tk} {l:List Tk} (hs:s.ts=t::l) (ht:LexT t) (h:bgn us s=false):∀u∈us,¬isAt 2 u s.ts=true:=λ u hu e=>by
 have h1:isAt 2 u s.ts=decide (t.text=u):=by rw [hs];exact tells_kw (hk u hu) t ht
 rw [h1,decide_eq_true_eq] at e;unfold bgn textAt at h;rw [hs] at h
 have h2:us.contains t.text=true:=by rw [List.contains_iff_mem,e];exact hu
 rw [show us.contains t.text=false from h] at h2;cases h2
theorem clauseS_stop (x:SyB) (s:Ss) (t:Tk) (l:List Tk) (hs:s.ts=t::l) (ht:LexT t) (h:bgn clWs s=false):clauseS x s=.ok (x,false) s:=by
 have n:=bgn_no clWs_kw hs ht h
 have hm:moveK s.ts=0:=by
  unfold moveK;simp only [wordAt];rw [if_neg (n wOn (by decide)),if_neg (n wAlways (by decide)),if_neg (n wAfter (by decide))]
 unfold clauseS;rw [if_neg (n wInitial (by decide)),if_neg (n wEnter (by decide)),if_neg (n wLeave (by decide))];unfold movS;rw [if_pos hm]
theorem wrong_ne {α:Type} {ts:List Tk} {x:α} {s:Ss}:(wrongR ts:Rs α)≠.ok x s:=by
 cases ts with
 |nil=>intro h;cases h
 |cons t r=>rw [wrongR_cons];split <;> (intro h;cases h)
theorem clauseS_goon (x:SyB) (s:Ss) (y:SyB) (s':Ss) (t:Tk) (l:List Tk) (hs:s.ts=t::l) (ht:LexT t) (h:bgn clWs s=true):clauseS x s≠.ok (y,false) s':=λ e=>by
 have hw:=(word_bgn clWs_kw hs ht 1 (by decide)).1 h;unfold clauseS at e
 by_cases h1:isAt 2 wInitial s.ts=true
 ·rw [if_pos h1] at e;unfold initS at e
  split at e
  ·exact wrong_ne e
  ·obtain ⟨_,_,_,e1⟩:=Rs.some e;obtain ⟨_,_,_,e2⟩:=Rs.some e1;exact absurd (congrArg Prod.snd (Rs.ok.inj e2).1) (by simp)
 ·rw [if_neg h1] at e
  by_cases h2:isAt 2 wEnter s.ts=true
  ·rw [if_pos h2] at e;unfold enterS at e
   split at e
   ·exact wrong_ne e
   ·obtain ⟨_,_,_,e1⟩:=Rs.some e;exact absurd (congrArg Prod.snd (Rs.ok.inj e1).1) (by simp)
  ·rw [if_neg h2] at e
   by_cases h3:isAt 2 wLeave s.ts=true
   ·rw [if_pos h3] at e;unfold leaveS at e
    split at e
    ·exact wrong_ne e
    ·obtain ⟨_,_,_,e1⟩:=Rs.some e;exact absurd (congrArg Prod.snd (Rs.ok.inj e1).1) (by simp)
   ·rw [if_neg h3] at e;unfold movS at e
    split at e
    ·rename_i hm;unfold moveK at hm;unfold clWs at hw;simp only [wordAt] at hm hw;rw [if_neg h1,if_neg h2,if_neg h3] at hw
     by_cases c4:isAt 2 wOn s.ts=true
     ·rw [if_pos c4] at hm;cases hm
     ·rw [if_neg c4] at hm hw
      by_cases c5:isAt 2 wAlways s.ts=true
      ·rw [if_pos c5] at hm;cases hm
      ·rw [if_neg c5] at hm hw
       by_cases c6:isAt 2 wAfter s.ts=true
       ·rw [if_pos c6] at hm;cases hm
       ·rw [if_neg c6] at hw;exact hw rfl
    ·obtain ⟨_,_,_,e1⟩:=Rs.some e;exact absurd (congrArg Prod.snd (Rs.ok.inj e1).1) (by simp)
theorem kidS_stop (nd:Ss->Rs SyNode) (x:List SyNode) (s:Ss) (t:Tk) (l:List Tk) (hs:s.ts=t::l) (ht:LexT t) (h:bgn kidWs s=false):kidS nd x s=.ok (x,false) s:=by
 have hk:nodeK s.ts=0:=Classical.byContradiction λ hh=>by
  have:=(word_bgn kidWs_kw hs ht 1 (by decide)).2 hh;rw [h] at this;cases this
 unfold kidS;rw [if_pos hk]
theorem kidS_goon (nd:Ss->Rs SyNode) (x:List SyNode) (s:Ss) (y:List SyNode) (s':Ss) (t:Tk) (l:List Tk) (hs:s.ts=t::l) (ht:LexT t) (h:bgn kidWs s=true):kidS nd x s≠.ok (y,false) s':=λ e=>by
 have hk:nodeK s.ts≠0:=(word_bgn kidWs_kw hs ht 1 (by decide)).1 h;unfold kidS at e;rw [if_neg hk] at e;obtain ⟨_,_,_,e2⟩:=Rs.some e;exact absurd (congrArg Prod.snd (Rs.ok.inj e2).1) (by simp)
theorem step_left {σ:Type} {stp:σ->Ss->Rs (σ×Bool)} (hst:∀x s,Steps s (stp x s)) {x:σ} {s s':Ss} (hgo:∀y s',stp x s≠.ok (y,false) s') (e:(stp x s).void=.ok () s'):s'.ts.length+1<=s.ts.length:=by
 cases e1:stp x s with
 |out=>rw [e1] at e;cases e
 |bad c p=>rw [e1] at e;cases e
 |ok z s1 =>
  rw [e1] at e;have e2:s1=s':=(Rs.ok.inj e).2;subst e2;obtain ⟨z,bb⟩:=z
  cases bb with
  |false=>exact absurd e1 (hgo z s1)
  |true =>
   have:=hst x s z true s1 e1;simpa using this
structure B1 (b:Nat) (K:Kx) (V D:Int) (gn jn gs gx gp gu base:Nat) (T:TypeId) (pre:List Value) (kc nmv dfv pv:Value) (Wb:World) (x:SyB) (m:Rs Unit) (W:World):Prop where
 ps:PS W b K V D m
 ns:NS W gn jn gs base T pre kc nmv dfv pv x []
 tx:CB W gu 9 (clWs.map txV)
 gp:CB W gp 176 [.pointer (some ⟨b,0,none⟩)]
 gx:CB W gx 182 [.pointer (some ⟨gn,jn,none⟩)]
 ch:Ch (λ k=>k=b∨k=gn∨k=gs∨base<=k) Wb W
 len:∀s,m=.ok () s->x.moves.length+s.ts.length<=100000
 sz:base<=W.heap.size
theorem B1.below {b:Nat} {K:Kx} {V D:Int} {gn jn gs gx gp gu base:Nat} {T:TypeId} {pre:List Value} {kc nmv dfv pv:Value} {Wb:World} {x:SyB} {m:Rs Unit} {W W':World} (h:B1 b K V D gn jn gs gx gp gu base T pre kc nmv dfv pv Wb x m W) (hb:Below W.heap.size W W'):B1 b K V D gn jn gs gx gp gu base T pre kc nmv dfv pv Wb x m W' :=
 ⟨h.ps.below hb,h.ns.below hb,h.tx.below hb,h.gp.below hb,h.gx.below hb,h.ch.trans (Ch.of_below hb),h.len,Nat.le_trans h.sz hb.size⟩
structure B2 (b:Nat) (K:Kx) (V D:Int) (gn jn gs gx gp gu base:Nat) (T:TypeId) (pre:List Value) (kc nmv dfv pv:Value) (x:SyB) (Wb:World) (ki:List SyNode) (m:Rs Unit) (W:World):Prop where
 ps:PS W b K V D m
 ns:NSK W gu gn jn gs base T pre kc nmv dfv pv x ki
 tx:CB W gu 9 (kidWs.map txV)
 gp:CB W gp 176 [.pointer (some ⟨b,0,none⟩)]
 gx:CB W gx 182 [.pointer (some ⟨gn,jn,none⟩)]
 ch:Ch (λ k=>k=b∨k=gn∨base<=k/\k≠gu) Wb W
 len:∀s,m=.ok () s->ki.length+s.ts.length<=100000
 sz:base<=W.heap.size
theorem B2.below {b:Nat} {K:Kx} {V D:Int} {gn jn gs gx gp gu base:Nat} {T:TypeId} {pre:List Value} {kc nmv dfv pv:Value} {x:SyB} {Wb:World} {ki:List SyNode} {m:Rs Unit} {W W':World} (h:B2 b K V D gn jn gs gx gp gu base T pre kc nmv dfv pv x Wb ki m W) (hb:Below W.heap.size W W'):B2 b K V D gn jn gs gx gp gu base T pre kc nmv dfv pv x Wb ki m W' :=
 ⟨h.ps.below hb,h.ns.below hb,h.tx.below hb,h.gp.below hb,h.gx.below hb,h.ch.trans (Ch.of_below hb),h.len,Nat.le_trans h.sz hb.size⟩
theorem body_kids (w:World) (b:Nat) (K:Kx) (V D:Int) (d:Nat) (m:Rs Unit) (gn jn gs gx gp gu base:Nat) (T:TypeId) (pre:List Value) (kc nmv dfv pv:Value) (x:SyB) (Wb:World) (ki:List SyNode) (h:B2 b K V D gn jn gs gx gp gu base T pre kc nmv dfv pv x Wb ki m w) (hpre:pre.length=jn) (hnd:(∃s,m=.ok () s)->NodeC b K D d)
  (hbn:b<gn) (hbs:b<gs) (hns:gn≠gs) (hnB:gn<base) (hsB:gs<base) (hxB:gx<base) (hpB:gp<base) (hbx:b<gx) (hbp:b<gp) (hnx:gx≠gn) (hnp:gp≠gn) (hnu:gu≠b/\gu≠gn) :
  Calls Tryz.prog 112 #[.pointer (some ⟨b,0,none⟩),.func (.func 176) #[] #[.pointer (some ⟨gx,0,none⟩),.pointer (some ⟨gp,0,none⟩)],.slice (some ⟨gu,0,none⟩) kidWs.length kidWs.length] w λ e w'=>e=.returned (.tuple #[])/\∃y,(m.go (It (kidS (nodeR d)) ki)).is y/\B2 b K V D gn jn gs gx gp gu base T pre kc nmv dfv pv x Wb y (m.go (It (kidS (nodeR d)) ki)).void w':=by
 cases m with
 |out=>exact absurd rfl h.ps.notOut
 |bad c p =>
  refine each_it b K D gu kidWs _ _ (λ _ _=>by kernel_rfl) (kidS (nodeR d)) (kidS_goes (nodeR_takes d)) (λ ki m W=>B2 b K V D gn jn gs gx gp gu base T pre kc nmv dfv pv x Wb ki m W/\m=.bad c p) (λ x m w hi=>⟨V,hi.1.ps⟩) (λ x m w hi=>hi.1.tx) (λ x m w w' hi hb=>⟨hi.1.below hb,hi.2⟩) (kidS_stop _) (kidS_goon _) (λ x s W hi=>absurd hi.2 (by intro h;cases h)) ki _ w ⟨h,rfl⟩ (by decide) |>.mono ?_
  rintro e w' ⟨rfl,y,h1,h2,_⟩;exact ⟨rfl,y,h1,h2⟩
 |ok u s0 =>
  have hnd:=hnd ⟨s0,rfl⟩;refine each_it b K D gu kidWs _ _ (λ _ _=>by kernel_rfl) (kidS (nodeR d)) (kidS_goes (nodeR_takes d)) (B2 b K V D gn jn gs gx gp gu base T pre kc nmv dfv pv x Wb) (λ x m w hi=>⟨V,hi.ps⟩) (λ x m w hi=>hi.tx) (λ x m w w' hi hb=>hi.below hb) (kidS_stop _) (kidS_goon _) ?_ ki _ w h (by decide);intro ki s W hi hbg;obtain ⟨t,l,hs,hl,_⟩:=hi.ps.head rfl;refine (skid_any W b K V D d s gu gn jn gs gx gp base T pre kc nmv dfv pv x ki hi.ps hi.ns hpre hi.gx hi.gp hbg hnd hbn hbs hns hnB hsB hxB hpB hbx hbp hi.sz hi.tx.lt (by have:=hi.len s rfl;omega)).mono ?_;rintro e w' ⟨rfl,y,h1,h2,h3,h4,h5⟩;refine ⟨rfl,y,h1,h2,h3,hi.tx.ch h4 (by omega),hi.gp.ch h4 (by omega),hi.gx.ch h4 (by omega),hi.ch.trans h4,λ s' e=>?_,Nat.le_trans hi.sz h4.size⟩;have:=step_left (kidS_steps (nodeR_takes d)) (λ y s'=>kidS_goon (nodeR d) ki s y s' t l hs hl hbg) e;have:=hi.len s rfl;omega
theorem PS.lev {w:World} {b:Nat} {K:Kx} {V D:Int} {m:Rs Unit} (h:PS w b K V D m) (D':Int):PS (w.setCell ⟨b,8,none⟩ (.int .i64 D')) b K V D' m:=by
 obtain ⟨r,h1,h2,h3,h4,h5⟩:=h.out;exact h.turn (r:={ r with D:=D' }) ((Mv.refl b w).set 8 _) (h1.setD D') h2 h3 rfl (by cases m <;> exact h5)
theorem body_eq {m m1 m2:Rs Unit} {nd:Ss->Rs SyNode} {x:SyB} {l:List SyNode} (h1:(m.go (It clauseS SyB.none)).is x) (e1:(m.go (It clauseS SyB.none)).void=m1) (h2:(m1.go (It (kidS nd) [])).is l) (e2:(m1.go (It (kidS nd) [])).void=m2) :
  m.go (bodyR nd)=m2.go λ s=>.ok (x,l) s:=by
 unfold bodyR;rw [go_bind,Rs.seq h1,e1,go_bind,Rs.seq h2,e2]
def BdEnd (w:World) (b:Nat) (K:Kx) (V D:Int) (d:Nat) (m:Rs Unit) (gn:Nat) (T:TypeId) (pre:List Value) (kc nmv dfv pv:Value) (e:Ending) (w':World):Prop :=
 e=.returned (.tuple #[])/\∃z:SyB×List SyNode,(m.go (bodyR (nodeR d))).is z/\PS w' b K V D (m.go (bodyR (nodeR d))).void /\
  (∃v1 v2 v3 v4 F1 F2 F3 F4,CB w' gn T (pre++ndC kc nmv (txV z.1.initial) dfv v1 v2 v3 v4 pv)/\Q4 w' w.heap.size (dvActs true z.1.enter) (dvActs true z.1.leave) (dvMoves true z.1.moves) (dvKids true z.2) v1 v2 v3 v4 F1 F2 F3 F4)/\Ch (λ k=>k=b∨k=gn) w w'
theorem state_eq {m m1 m2 m3:Rs Unit} {d kd:Nat} {nd:Ss->Rs SyNode} {x:List UInt8} {p:Int} {z:SyB×List SyNode} (his:(m.go (namedR d)).is (x,p)) (h1:(m.go (namedR d)).void=m1) (h2:m1.go (mustR 4 [123])=m2) (hi3:(m2.go (bodyR nd)).is z) (h3:(m2.go (bodyR nd)).void=m3) :
  (m.go λ s=>(namedR d s).bind λ y s1=>innerR nd kd y s1)=(m3.go (mustR 4 [125])).go λ s=>.ok (nodeOf kd (x,p) z) s:=by
 have e1:(m1.go λ s1=>innerR nd kd (x,p) s1)=(m2.go (bodyR nd)).bind λ z s3=>(mustR 4 [125] s3).bind λ _ s4=>.ok (nodeOf kd (x,p) z) s4:=by
  rw [<-h2,go_go,<-go_bind]
  congr 1
  funext s1
  unfold innerR
  cases mustR 4 [123] s1 <;> rfl
 rw [go_bind,Rs.seq his,h1,e1,Rs.seq hi3,h3];exact (must_fin _ _).symm
theorem rep_node {W:World} {base:Nat} {kd:Nat} {x:List UInt8} {p:Int} {z:SyB×List SyNode} {v1 v2 v3 v4:Value} {F1 F2 F3 F4:List Nat} (h:Q4 W base (dvActs true z.1.enter) (dvActs true z.1.leave) (dvMoves true z.1.moves) (dvKids true z.2) v1 v2 v3 v4 F1 F2 F3 F4) {X Y:ByteArray} (hX:txV x=.string X) (hY:txV z.1.initial=.string Y) :
  Rep W base (dvNode true (nodeOf kd (x,p) z)) [.int .i64 (kd:Int),.string X,.string Y,.string ⟨#[]⟩,v1,v2,v3,v4,.int .i64 p]:=by
 have:=Rep.node (k:=kd) (p:=p) (nm:=x) (ini:=z.1.initial) (dft:=[]) h;unfold ndC at this;rw [hX,hY] at this;exact this
theorem str_of (t:List UInt8):∃X,txV t=.string X:=⟨_,rfl⟩
def StEnd (w:World) (b:Nat) (K:Kx) (V D:Int) (m:Rs SyNode) (e:Ending) (w':World):Prop :=
 ∃(x:SyNode) (ys:List Value),e=.returned (.agg ys.toArray)/\Rep w' w.heap.size (dvNode true x) ys/\ys.length=9/\m.is x/\PS w' b K V D m.void/\Mv b w w'
theorem node_inner {d k:Nat} {s:Ss} (hk:nodeK s.ts=k) (h3:k<3):nodeR d s=(Rs.ok () s.drop).go λ s=>(namedR d s).bind λ y s1=>innerR (nodeR (d-1)) k y s1:=by
 show _=(namedR d s.drop).bind _
 cases d with
 |zero =>
  obtain ⟨c,p,e⟩:=namedR_zero s.drop;unfold nodeR;rw [e];rfl
 |succ d =>
  unfold nodeR
  congr 1
  funext x s1
  rw [hk,if_neg (by omega)];rfl
theorem node_hist {d k:Nat} {s:Ss} (hk:nodeK s.ts=k) (h3:3<=k):nodeR d s=(Rs.ok () s.drop).go λ s=>(namedR d s).bind λ y s1=>histR k y s1:=by
 show _=(namedR d s.drop).bind _
 cases d with
 |zero =>
  obtain ⟨c,p,e⟩:=namedR_zero s.drop;unfold nodeR;rw [e];rfl
 |succ d =>
  unfold nodeR
  congr 1
  funext x s1
  rw [hk,if_pos h3]
end Go.Proofs.YtocecpghoncmgaaGreatDoor
namespace Go.Proofs.YtocecpghoncmgaaGreatDoor
open Go.RowKit
def vR (k:Nat) (s:Ss):Rs SyVar:=(vnameR k s.drop).bind λ x s1=>(mustR 4 [61] s1).bind λ _ s2=>(vnumR s2).bind λ v s3=>(mustR 4 [59] s3).bind λ _ s4=>.ok ⟨x.1,v,x.2⟩ s4
theorem var_step {l:List SyVar} {s:Ss} (h:isAt 2 wVar s.ts=true):varS l s=(vR l.length s).bind λ x s'=>.ok (l++[x],true) s':=by
 unfold varS vR;rw [if_pos h];simp only [Rs.assoc];rfl
structure B3 (w:World) (b:Nat) (K:Kx) (D:Int) (gc gp gu:Nat) (rest:List Value) (l:List SyVar) (m:Rs Unit) (W:World):Prop where
 ps:∃V,PS W b K V D m/\∀s,m=.ok () s->V=(l.length:Int)/\l.length<=16
 row:∃v F,CB W gc 29 (v::rest)/\DvAt W (dvVars l) v F/\F.Nodup/\∀g∈F,gu<g
 tx:CB W gu 9 ([wVar].map txV)
 gp:CB W gp 176 [.pointer (some ⟨b,0,none⟩)]
 ch:Ch (λ j=>j=b∨j=gc∨gu<j) w W
theorem B3.below {w:World} {b:Nat} {K:Kx} {D:Int} {gc gp gu:Nat} {rest:List Value} {l:List SyVar} {m:Rs Unit} {W W':World} (h:B3 w b K D gc gp gu rest l m W) (hb:Below W.heap.size W W'):B3 w b K D gc gp gu rest l m W':=by
 obtain ⟨v,F,h1,h2,h3,h4⟩:=h.row;obtain ⟨V,h5,h6⟩:=h.ps;exact ⟨⟨V,h5.below hb,h6⟩,⟨v,F,h1.below hb,h2.below hb,h3,h4⟩,h.tx.below hb,h.gp.below hb,h.ch.trans (Ch.of_below hb)⟩
theorem var_tells {s:Ss} {t:Tk} {r:List Tk} (hs:s.ts=t::r) (ht:LexT t):bgn [wVar] s=isAt 2 wVar s.ts:=by
 have h1:isAt 2 wVar s.ts=decide (t.text=wVar):=by rw [hs];exact tells_kw (by decide) t ht
 rw [h1];unfold bgn textAt;rw [hs];show [wVar].contains t.text=_
 by_cases c:t.text=wVar
 ·rw [c];decide
 ·simp [c]
def chR (s:Ss):Rs (List SyVar×(SyB×List SyNode)):=(It varS [] s).bind λ l s4=>(bodyR (nodeR 11) s4).bind λ z s5=>.ok (l,z) s5
theorem chR_eq {m m1:Rs Unit} {l:List SyVar} {z:SyB×List SyNode} (h1:(m.go (It varS [])).is l) (e1:(m.go (It varS [])).void=m1) (h2:(m1.go (bodyR (nodeR 11))).is z):m.go chR=(m1.go (bodyR (nodeR 11))).void.go λ s=>.ok (l,z) s:=by
 have e2:(m1.go λ s=>(bodyR (nodeR 11) s).bind λ z s5=>(.ok (l,z) s5:Rs (List SyVar×(SyB×List SyNode))))=(m1.go (bodyR (nodeR 11))).bind λ z s5=>.ok (l,z) s5:=go_bind _ _ _;unfold chR;rw [go_bind,Rs.seq h1,e1,e2,Rs.seq h2]
theorem Rep.mid {w:World} {base:Nat} {d:DV} {x:Value} {ds ds':List DV} {xs xs':List Value} (h:Rep w base (d::ds) (x::xs)) (f:∀F,DvsAt w ds xs F->DvsAt w ds' xs' F):Rep w base (d::ds') (x::xs'):=by
 obtain ⟨F,h1,h2,h3⟩:=h;unfold DvsAt at h1;obtain ⟨y,ys,F1,F2,e1,rfl,h4,h5⟩:=h1;injection e1 with e1 e2;subst e1 e2;exact ⟨F1++F2,DvsAt.cons h4 (f _ h5),h2,h3⟩
theorem rep_five {w:World} {base B:Nat} {d d1 d2 d3 d4:DV} {v v1 v2 v3 v4:Value} {F F1 F2 F3 F4:List Nat} (h:DvAt w d v F) (hn:F.Nodup) (hl:∀g∈F,base<=g/\g<B) (hb:base<=B) (h4:Q4 w B d1 d2 d3 d4 v1 v2 v3 v4 F1 F2 F3 F4):Rep w base [d,d1,d2,d3,d4] [v,v1,v2,v3,v4]:=by
 obtain ⟨G,k1,k2,k3⟩:=h4.rep;refine ⟨F++G,DvsAt.cons h k1,List.nodup_append.2 ⟨hn,k2,λ a ha a' ha' e=>?_⟩,λ g hg=>?_⟩
 ·subst e;have:=(hl a ha).2;have:=k3 a ha';omega
 ·rcases List.mem_append.1 hg with hg|hg
  ·exact (hl g hg).1
  ·exact Nat.le_trans hb (k3 g hg)
def CkEnd (w:World) (b:Nat) (K:Kx) (m:Rs Unit) (gc:Nat) (kc nmv dfv pv:Value) (e:Ending) (w':World):Prop :=
 e=.returned (.tuple #[])/\∃(l:List SyVar) (z:SyB×List SyNode),(m.go chR).is (l,z)/\(∃V,PS w' b K V 0 (m.go chR).void) /\
  (∃(A0 A1 A2 A3 A4:Option Addr) (n0 n1 n2 n3 n4 k0 k1 k2 k3 k4:Nat),CB w' gc 29 (.slice A0 n0 k0::ndC kc nmv (txV z.1.initial) dfv (.slice A1 n1 k1) (.slice A2 n2 k2) (.slice A3 n3 k3) (.slice A4 n4 k4) pv) /\
   Rep w' w.heap.size [dvVars l,dvActs true z.1.enter,dvActs true z.1.leave,dvMoves true z.1.moves,dvKids true z.2] [.slice A0 n0 k0,.slice A1 n1 k1,.slice A2 n2 k2,.slice A3 n3 k3,.slice A4 n4 k4])/\Ch (λ k=>k=b∨k=gc) w w'
theorem go_unit {α:Type} (m:Rs Unit) (f:Ss->Rs Unit) (g:Ss->Rs α):(m.go λ s=>(f s).bind λ _ s1=>g s1)=(m.go f).go g:=by
 cases m with
 |out=>rfl
 |bad c p=>rfl
 |ok u s=>exact unit_bind _ _
theorem chart_eq {m m1 m2 m3 m4 m5:Rs Unit} {x:List UInt8} {p:Int} {l:List SyVar} {z:SyB×List SyNode} (h1:m.go (mustR 2 wChart)=m1) (his:(m1.go (namedR 12)).is (x,p)) (h2:(m1.go (namedR 12)).void=m2) (h3:m2.go (mustR 4 [123])=m3) (hi4:(m3.go chR).is (l,z)) (h4:(m3.go chR).void=m4) (h5:m4.go (mustR 4 [125])=m5) :
  m.go chartR=m5.go (endR ⟨l,nodeOf 1 (x,p) z⟩):=by
 have e3:(m3.go λ s3=>(It varS [] s3).bind λ l s4=>(bodyR (nodeR 11) s4).bind λ z s5=>(mustR 4 [125] s5).bind λ _ s6=>endR ⟨l,nodeOf 1 (x,p) z⟩ s6)=(m3.go chR).bind λ y s5=>(mustR 4 [125] s5).bind λ _ s6=>endR ⟨y.1,nodeOf 1 (x,p) y.2⟩ s6:=by
  rw [<-go_bind]
  congr 1
  funext s3
  unfold chR;simp only [Rs.assoc];rfl
 unfold chartR;rw [go_unit,h1,go_bind,Rs.seq his,h2,go_unit,h3,e3,Rs.seq hi4,h4,go_unit,h5]
theorem end_ok {m:Rs Unit} {K:Kx} {t:Tk} (h:TokAt K m t) (hk:t.kind=5) (c:SyChart):m.go (endR c)=m.go λ s=>.ok c s:=by
 cases m with
 |out=>rfl
 |bad c p=>rfl
 |ok u s =>
  obtain ⟨r,hr⟩:=h.2 s (by cases u;rfl);show endR c s=.ok c s;unfold endR;rw [hr];exact if_pos hk
theorem end_no {m:Rs Unit} {K:Kx} {t:Tk} (h:TokAt K m t) (hk:t.kind≠5) (c:SyChart):m.go (endR c)=m.go λ s=>wrongR s.ts:=by
 cases m with
 |out=>rfl
 |bad c p=>rfl
 |ok u s =>
  obtain ⟨r,hr⟩:=h.2 s (by cases u;rfl);show endR c s=wrongR s.ts;unfold endR;rw [hr];exact if_neg hk
theorem wrong_govoid {α:Type} (m:Rs Unit):(m.go λ s=>(wrongR s.ts:Rs α)).void=m.go λ s=>wrongR s.ts:=by
 cases m with
 |out=>rfl
 |bad c p=>rfl
 |ok u s =>
  show (wrongR s.ts:Rs α).void=wrongR s.ts
  cases s.ts with
  |nil=>rfl
  |cons t r=>rw [wrongR_cons,wrongR_cons];split <;> rfl
theorem rep_chart {W:World} {base:Nat} {x:List UInt8} {p:Int} {l:List SyVar} {z:SyB×List SyNode} {v v1 v2 v3 v4:Value} (h:Rep W base [dvVars l,dvActs true z.1.enter,dvActs true z.1.leave,dvMoves true z.1.moves,dvKids true z.2] [v,v1,v2,v3,v4]) {X Y:ByteArray} (hX:txV x=.string X) (hY:txV z.1.initial=.string Y) :
  Rep W base (dvChart true ⟨l,nodeOf 1 (x,p) z⟩) [v,.int .i64 1,.string X,.string Y,.string ⟨#[]⟩,v1,v2,v3,v4,.int .i64 p]:=by
 unfold dvChart nodeOf;rw [dvNode_mk];refine h.mid λ F hF=>?_;rw [<-hX,<-hY];have:=hF.app (DvsAt.v (w:=W) (u:=.int .i64 p) rfl (DvsAt.nil W));rw [List.append_nil] at this;exact DvsAt.v rfl (DvsAt.v rfl (DvsAt.v rfl (DvsAt.v rfl this)))
def ChEnd (w:World) (b:Nat) (K:Kx) (m:Rs SyChart) (e:Ending) (w':World):Prop :=
 ∃(c:SyChart) (ys:List Value),e=.returned (.agg ys.toArray)/\Rep w' w.heap.size (dvChart true c) ys/\ys.length=10/\m.is c/\(∃V,PS w' b K V 0 m.void)/\Mv b w w'
def noChart:SyChart:=⟨[],.mk 0 [] [] [] [] [] [] [] 0⟩
def Rs.chart:Rs SyChart->SyChart
 |.ok c _=>c
 |_=>noChart
def Rs.fc {α:Type}:Rs α->Int
 |.bad c _=>c
 |_=>0
def Rs.fp {α:Type}:Rs α->Int
 |.bad _ p=>p
 |_=>0
def zChart:List Value:=[.slice none 0 0,.int .i64 0,.string ⟨#[]⟩,.string ⟨#[]⟩,.string ⟨#[]⟩,.slice none 0 0,.slice none 0 0,.slice none 0 0,.slice none 0 0,.int .i64 0]
theorem resCF {w:World} {g g':Nat} {v0 v1 v2 v3 v4 v5 v6 v7 v8 v9 x y:Value} {fn:Func} {p p':Tmp} (hr:fn.results=#[.cell p 29,.cell p' 34]) (tmps:Array Value) (hp:tmps.getD p undef=.pointer (some ⟨g,0,none⟩)) (hp':tmps.getD p' undef=.pointer (some ⟨g',0,none⟩))
  (h:CB w g 29 [v0,v1,v2,v3,v4,v5,v6,v7,v8,v9]) (h':FtB w g' x y):(results fn tmps).run Tryz.prog w=.ok (.tuple #[.agg #[v0,v1,v2,v3,v4,v5,v6,v7,v8,v9],.agg #[x,y]]) w:=by
 have e1:tmps[p]?.getD undef=.pointer (some ⟨g,0,none⟩):=by simpa using hp
 have e2:tmps[p']?.getD undef=.pointer (some ⟨g',0,none⟩):=by simpa using hp'
 simp [results,hr,e1,e2,asAddr,ldChart h,h'.load]
def SpEnd (w:World) (R:Rs SyChart) (e:Ending) (w':World):Prop :=
 ∃ys:List Value,e=.returned (.tuple #[.agg ys.toArray,ftV R.fc R.fp])/\Rep w' w.heap.size (dvChart true R.chart) ys/\ys.length=10/\Below w.heap.size w w'/\∀c p,R=.bad c p->c≠0
theorem cells10 {l:List Value} (h:l.length=10):∃y0 y1 y2 y3 y4 y5 y6 y7 y8 y9,l=[y0,y1,y2,y3,y4,y5,y6,y7,y8,y9]:=by
 match l,h with
 |[y0,y1,y2,y3,y4,y5,y6,y7,y8,y9],_=>exact ⟨_,_,_,_,_,_,_,_,_,_,rfl⟩
theorem syR_start (xs:List Tk):(Rs.ok () (⟨xs,0,0,0⟩:Ss)).go chartR=syR xs:=rfl
theorem PS.start {w:World} {n c:Nat} {A:Option Addr} {xs:List Tk} {b:Nat} (hb:CB w b 122 [.slice A n c,.int .i64 0,.int .i64 0,.int .i64 0,.int .i64 0,.int .i64 0,.int .i64 0,.int .i64 0,.int .i64 0]) (hA:TkAt w A n xs) (hlt:∀g o,A=some ⟨g,o,none⟩->g<b) (hV:Vs w) (hk:0<b/\1<b) (hn:n<=100000) (he:TkEnds xs) (hL:∀t∈xs,Lex t) (hT:∀t∈xs,LexT t) :
  PS w b ⟨A,n,c,xs⟩ 0 0 (.ok () ⟨xs,0,0,0⟩):=by
 have hn0:0<n:=by rw [<-hA.1];exact (ends_at he).2
 exact ⟨⟨⟨0,0,0,0,0,0,0,0⟩,hb,hn0,rfl,rfl,rfl,rfl,he,rfl,rfl,rfl,Nat.zero_le _,Nat.zero_le _,Nat.zero_le _⟩,hA,hlt,hV,hk,⟨hn,hL,hT,he⟩⟩
end Go.Proofs.YtocecpghoncmgaaGreatDoor
namespace Go.Proofs.YtocecpghoncmgaaGreatDoor
def Ex.size:Ex->Nat
 |.one _ x _=>1+x.size
 |.both _ x y=>1+(x.size+y.size)
 |_=>1
theorem par_ge (b:Bool) (s:List UInt8):s.length<=(par b s).length:=by
 cases b with
 |false=>exact n_ _
 |true=>simp only [par,if_true,List.length_cons,List.length_append,List.length_nil];omega
theorem Hd.len {t:List UInt8} (h:Hd t):1<=t.length:=by
 obtain ⟨c,r,rfl,_⟩:=h;simp
theorem size_tx:∀e:Ex,e.fine->e.size<=e.tx.length
 |.int n p,h=>(tx_Hd (.int n p) h).len
 |.var s p,h=>(tx_Hd (.var s p) h).len
 |.inn s p,h=>(tx_Hd (.inn s p) h).len
 |.one op x p,h=>by
  have h1:=size_tx x h.2;have h2:=par_ge x.isBoth x.tx;show 1+x.size<=(_::par x.isBoth x.tx).length;rw [List.length_cons];omega
 |.both op x y,h=>by
  have h1:=size_tx x h.2.1;have h2:=size_tx y h.2.2;have h3:=par_ge (decide (x.lev<rowOf op)) x.tx;have h4:=par_ge (decide (y.lev<=rowOf op)) y.tx;show 1+(x.size+y.size)<=(par (decide (x.lev<rowOf op)) x.tx++32::(sgOf op++32::par (decide (y.lev<=rowOf op)) y.tx)).length;simp only [List.length_append,List.length_cons];omega
def node (k n:Int) (s:List UInt8) (o:Int) (l:List (Option Ex)):Option Ex :=
 if k=1/\0<=n/\n<=9223372036854775807/\s=[]/\o=0/\l=[] then some (.int n 0)
 else if k=2/\n=0/\isNm s=true/\o=0/\l=[] then some (.var s 0)
 else if k=3/\n=0/\isNm s=true/\o=0/\l=[] then some (.inn s 0)
 else match l with
  |[some x]=>if k=4/\n=0/\s=[]/\(o=14∨o=15) then some (.one o x 0) else none
  |[some x,some y]=>if k=5/\n=0/\s=[]/\rowOf o<6 then some (.both o x y) else none
  |_=>none
mutual
def GX.ex:GX->Option Ex
 |.mk k n s o l _=>node k n s o (GX.exs l)
def GX.exs:List GX->List (Option Ex)
 |[]=>[]
 |x::l=>x.ex::GX.exs l
end
mutual
def GX.rng:GX->Prop
 |.mk _ n s o l _=>(-9223372036854775808<=n/\n<=9223372036854775807)/\(-9223372036854775808<=o/\o<=9223372036854775807)/\s.length<=140737488351232/\GX.rngs l
def GX.rngs:List GX->Prop
 |[]=>True
 |x::l=>x.rng/\GX.rngs l
end
theorem exs_one (x:GX):GX.exs [x]=[x.ex]:=by rw [GX.exs,GX.exs]
theorem exs_two (x y:GX):GX.exs [x,y]=[x.ex,y.ex]:=by rw [GX.exs,GX.exs,GX.exs]
theorem exs_nil:GX.exs []=[]:=by rw [GX.exs]
theorem ex_mk (k n:Int) (s:List UInt8) (o:Int) (l:List GX) (p:Int):(GX.mk k n s o l p).ex=node k n s o (GX.exs l):=by rw [GX.ex]
theorem exs_len:∀l:List GX,(GX.exs l).length=l.length
 |[]=>by rw [exs_nil];rfl
 |x::l=>by rw [GX.exs,List.length_cons,List.length_cons,exs_len l]
theorem node_one (o:Int) (x:Ex) (h:o=14∨o=15):node 4 0 [] o [some x]=some (.one o x 0):=by
 unfold node;rw [if_neg (λ h=>absurd h.1 (by decide)),if_neg (λ h=>absurd h.1 (by decide)),if_neg (λ h=>absurd h.1 (by decide))];exact if_pos ⟨rfl,rfl,rfl,h⟩
theorem node_both (o:Int) (x y:Ex) (h:rowOf o<6):node 5 0 [] o [some x,some y]=some (.both o x y):=by
 unfold node;rw [if_neg (λ h=>absurd h.1 (by decide)),if_neg (λ h=>absurd h.1 (by decide)),if_neg (λ h=>absurd h.1 (by decide))];exact if_pos ⟨rfl,rfl,rfl,h⟩
theorem node_one_none (o:Int):node 4 0 [] o [none]=none:=by
 unfold node;rw [if_neg (λ h=>absurd h.1 (by decide)),if_neg (λ h=>absurd h.1 (by decide)),if_neg (λ h=>absurd h.1 (by decide))]
theorem node_both_none (o:Int) (x y:Option Ex) (h:x=none∨y=none):node 5 0 [] o [x,y]=none:=by
 unfold node;rw [if_neg (λ h=>absurd h.1 (by decide)),if_neg (λ h=>absurd h.1 (by decide)),if_neg (λ h=>absurd h.1 (by decide))];rcases h with rfl|rfl
 ·rfl
 ·cases x <;> rfl
def nodeOk (k n:Int) (s:List UInt8) (o:Int) (m:Nat):Bool :=
 if k=1 then decide (o=0)&&decide (m=0)&&decide (0<=n)&&decide (s=[])
 else if k=2∨k=3 then decide (o=0)&&decide (m=0)&&decide (n=0)&&isNm s
 else if k=4 then decide (n=0)&&decide (s=[])&&(decide (o=14) || decide (o=15))&&decide (m=1)
 else if k=5 then decide (n=0)&&decide (s=[])&&decide (rowOf o<6)&&decide (m=2)
 else false
theorem node_bad {k n:Int} {s:List UInt8} {o:Int} {l:List (Option Ex)} (h:nodeOk k n s o l.length=false):node k n s o l=none:=by
 unfold node;unfold nodeOk at h
 by_cases h1:k=1
 ·rw [if_pos h1] at h;rw [if_neg (by rintro ⟨_,a,_,b,c,d⟩;subst b;subst c;subst d;simp [a] at h),if_neg (by omega),if_neg (by omega)]
  split
  ·rw [if_neg (by omega)]
  ·rw [if_neg (by omega)]
  ·rfl
 ·rw [if_neg h1] at h
  by_cases h2:k=2∨k=3
  ·rw [if_pos h2] at h;rw [if_neg (by omega),if_neg (by rintro ⟨_,a,b,c,d⟩;subst a;subst c;subst d;simp [b] at h),if_neg (by rintro ⟨_,a,b,c,d⟩;subst a;subst c;subst d;simp [b] at h)]
   split
   ·rw [if_neg (by omega)]
   ·rw [if_neg (by omega)]
   ·rfl
  ·rw [if_neg h2] at h;rw [if_neg (by omega),if_neg (by omega),if_neg (by omega)]
   by_cases h4:k=4
   ·rw [if_pos h4] at h
    split
    ·rw [if_neg (by rintro ⟨_,a,b,c⟩;subst a;subst b;simp at h;omega)]
    ·rw [if_neg (by omega)]
    ·rfl
   ·rw [if_neg h4] at h
    split
    ·rw [if_neg (by omega)]
    ·rw [if_neg (by rintro ⟨c,a,b,d⟩;subst a;subst b;subst c;simp at h;omega)]
    ·rfl
theorem node_some {k n:Int} {s:List UInt8} {o:Int} {l:List (Option Ex)} {e:Ex} (h:node k n s o l=some e) :
  (k=1/\0<=n/\n<=9223372036854775807/\s=[]/\o=0/\l=[]/\e=.int n 0)∨(k=2/\n=0/\isNm s=true/\o=0/\l=[]/\e=.var s 0)∨(k=3/\n=0/\isNm s=true/\o=0/\l=[]/\e=.inn s 0) ∨
  (∃x,k=4/\n=0/\s=[]/\(o=14∨o=15)/\l=[some x]/\e=.one o x 0)∨(∃x y,k=5/\n=0/\s=[]/\rowOf o<6/\l=[some x,some y]/\e=.both o x y):=by
 unfold node at h
 split at h
 ·rename_i c;exact .inl ⟨c.1,c.2.1,c.2.2.1,c.2.2.2.1,c.2.2.2.2.1,c.2.2.2.2.2,(Option.some.inj h).symm⟩
 ·split at h
  ·rename_i c;exact .inr (.inl ⟨c.1,c.2.1,c.2.2.1,c.2.2.2.1,c.2.2.2.2,(Option.some.inj h).symm⟩)
  ·split at h
   ·rename_i c;exact .inr (.inr (.inl ⟨c.1,c.2.1,c.2.2.1,c.2.2.2.1,c.2.2.2.2,(Option.some.inj h).symm⟩))
   ·match l,h with
    |[some x],h =>
     have h':(if k=4/\n=0/\s=[]/\(o=14∨o=15) then some (Ex.one o x 0) else none)=some e:=h
     split at h'
     ·rename_i c;exact .inr (.inr (.inr (.inl ⟨x,c.1,c.2.1,c.2.2.1,c.2.2.2,rfl,(Option.some.inj h').symm⟩)))
     ·cases h'
    |[some x,some y],h =>
     have h':(if k=5/\n=0/\s=[]/\rowOf o<6 then some (Ex.both o x y) else none)=some e:=h
     split at h'
     ·rename_i c;exact .inr (.inr (.inr (.inr ⟨x,y,c.1,c.2.1,c.2.2.1,c.2.2.2,rfl,(Option.some.inj h').symm⟩)))
     ·cases h'
    |[],h=>cases h
    |[none],h=>cases h
    |[none,_],h=>cases h
    |[some _,none],h=>cases h
    |none::_::_::_,h=>cases h
    |some _::none::_::_,h=>cases h
    |some _::some _::_::_,h=>cases h
theorem exs_is_one {l:List GX} {a:Option Ex} (h:GX.exs l=[a]):∃x,l=[x]/\x.ex=a:=by
 match l,h with
 |[],h=>rw [exs_nil] at h;cases h
 |[x],h=>rw [exs_one] at h;exact ⟨x,rfl,List.head_eq_of_cons_eq h⟩
 |x::y::l,h =>
  have:=exs_len (x::y::l);rw [h] at this;simp at this
theorem exs_is_two {l:List GX} {a b:Option Ex} (h:GX.exs l=[a,b]):∃x y,l=[x,y]/\x.ex=a/\y.ex=b:=by
 match l,h with
 |[],h=>rw [exs_nil] at h;cases h
 |[x],h=>rw [exs_one] at h;cases h
 |[x,y],h =>
  rw [exs_two] at h;simp only [List.cons.injEq,and_true] at h;exact ⟨x,y,rfl,h.1,h.2⟩
 |x::y::z::l,h =>
  have:=exs_len (x::y::z::l);rw [h] at this;simp at this
theorem exs_is_nil {l:List GX} (h:GX.exs l=[]):l=[]:=by
 have:=exs_len l;rw [h] at this;exact List.eq_nil_of_length_eq_zero this.symm
theorem ex_some:∀(x:GX) (e:Ex),x.ex=some e->e.fine/\e.er=e/\x.er=e.gx
 |.mk k n s o l p,e,h=>by
  rw [ex_mk] at h;rcases node_some h with ⟨rfl,a,b,rfl,rfl,c,rfl⟩|⟨rfl,rfl,a,rfl,c,rfl⟩|⟨rfl,rfl,a,rfl,c,rfl⟩|⟨x,rfl,rfl,rfl,a,c,rfl⟩|⟨x,y,rfl,rfl,rfl,a,c,rfl⟩
  ·obtain rfl:=exs_is_nil c;exact ⟨⟨a,b⟩,rfl,by rw [GX.er,GX.ers];rfl⟩
  ·obtain rfl:=exs_is_nil c;exact ⟨a,rfl,by rw [GX.er,GX.ers];rfl⟩
  ·obtain rfl:=exs_is_nil c;exact ⟨a,rfl,by rw [GX.er,GX.ers];rfl⟩
  ·obtain ⟨z,rfl,hz⟩:=exs_is_one c;have ih:=ex_some z x hz;refine ⟨⟨a,ih.1⟩,by rw [Ex.er,ih.2.1],?_⟩;rw [GX.er,GX.ers,GX.ers,ih.2.2];rfl
  ·obtain ⟨z,z',rfl,hz,hz'⟩:=exs_is_two c;have ih:=ex_some z x hz;have ih':=ex_some z' y hz';refine ⟨⟨a,ih.1,ih'.1⟩,by rw [Ex.er,ih.2.1,ih'.2.1],?_⟩;rw [GX.er,GX.ers,GX.ers,GX.ers,ih.2.2,ih'.2.2];show GX.mk 5 0 [] o [x.gx,y.gx] 0=GX.mk 5 0 [] o [x.gx,y.gx] x.pos;rw [<-ih.2.1,er_pos]
 termination_by x=>SizeOf.sizeOf x
def GX.right (x:GX):Option Ex:=match x.ex with
 |some e=>if e.nst<=20/\e.tx.length<=16384 then some e else none
 |none=>none
def GX.txt (x:GX):List UInt8:=match x.right with
 |some e=>e.tx
 |none=>[]
def wrX (x:Option Ex) (n d L:Nat):Option Ex:=match x with
 |some e=>if d+e.nst<=20/\L+e.tx.length<=16384/\n+e.size<=16384 then some e else none
 |none=>none
theorem wrX_right (x:GX):wrX x.ex 0 0 0=x.right:=by
 unfold GX.right wrX
 cases h:x.ex with
 |none=>rfl
 |some e =>
  have:=size_tx e (ex_some x e h).1;simp only [Nat.zero_add]
  by_cases c:e.nst<=20/\e.tx.length<=16384
  ·rw [if_pos c,if_pos ⟨c.1,c.2,by omega⟩]
  ·rw [if_neg c,if_neg (λ hh=>c ⟨hh.1,hh.2.1⟩)]
def wrP (b:Bool) (x:Option Ex) (n d L:Nat):Option Ex:=match x with
 |some e=>if d+((if b=true then 1 else 0)+e.nst)<=20/\L+(par b e.tx).length<=16384/\n+e.size<=16384 then some e else none
 |none=>none
theorem wrP_not (x:Option Ex) (n d L:Nat):wrP false x n d L=wrX x n d L:=by
 cases x with
 |none=>rfl
 |some e=>simp only [wrP,wrX,Bool.false_eq_true,if_false,Nat.zero_add,par]
theorem rng_get:∀{l:List GX} {j:Nat} {x:GX},GX.rngs l->l[j]?=some x->x.rng
 |[],j,x,_,h=>by simp at h
 |y::l,0,x,hr,h=>by
  rw [GX.rngs] at hr
  have:y=x:=by simpa using h
  rw [<-this];exact hr.1
 |y::l,j+1,x,hr,h=>by
  rw [GX.rngs] at hr;exact rng_get hr.2 (by simpa using h)
end Go.Proofs.YtocecpghoncmgaaGreatDoor
namespace Go.Proofs.YtocecpghoncmgaaGreatDoor
open Go.RowKit
mutual
def sm (pl:Bool):GX->GX->Bool
 |.mk k n s o l p,.mk k' n' s' o' l' p'=>(k==k')&&(n==n')&&(s==s')&&(o==o')&&(!pl || (p==p'))&&decide (l.length=l'.length)&&sms pl l l'
def sms (pl:Bool):List GX->List GX->Bool
 |x::l,y::l'=>sm pl x y&&sms pl l l'
 |_,_=>true
end
theorem GV.out {w:World} {lo hi:Nat} {x:GX} {v:EV} (h:GV w lo hi x v):v.kind=x.kind/\v.num=x.num/\v.name.data.toList=x.name/\v.op=x.op/\v.p=x.p/\v.len=x.subs.length/\v.len<=v.cap/\v.cap<=maxLen/\GRow w lo hi x.subs v.A 0:=by
 cases x;unfold GV at h;exact h
theorem sub_size {x:GX} {i:Nat} {y:GX} (h:x.subs[i]?=some y):SizeOf.sizeOf y<SizeOf.sizeOf x:=by
 cases x with
 |mk k n s o l p =>
  have hm:y∈l:=List.mem_of_getElem? h;have:=List.sizeOf_lt_of_mem hm;simp only [GX.mk.sizeOf_spec];omega
end Go.Proofs.YtocecpghoncmgaaGreatDoor
namespace Go.Proofs.YtocecpghoncmgaaGreatDoor
open Go.RowKit
theorem drop_cons2 {α:Type} {l:List α} {i:Nat} {x:α} (h:l[i]?=some x):l.drop i=x::l.drop (i+1):=by
 obtain ⟨hl,he⟩:=List.getElem?_eq_some_iff.1 h;rw [List.drop_eq_getElem_cons hl,he]
end Go.Proofs.YtocecpghoncmgaaGreatDoor
namespace Go.Proofs.YtocecpghoncmgaaGreatDoor
open Go.RowKit Go.Deep Go.ChangeShapes Go.WideShapes
def StrAt (w:World) (A:Option Addr) (xs:List ByteArray):Prop:=∀(i:Nat) (s:ByteArray),xs[i]?=some s->∃g o,A=some ⟨g,o,none⟩/\g<w.heap.size/\w.cell? ⟨g,o+i,none⟩=some (.string s)
def IntAt (w:World) (A:Option Addr) (xs:List Int):Prop:=∀(i:Nat) (n:Int),xs[i]?=some n->∃g o,A=some ⟨g,o,none⟩/\g<w.heap.size/\w.cell? ⟨g,o+i,none⟩=some (.int .i64 n)
end Go.Proofs.YtocecpghoncmgaaGreatDoor
namespace Go.Proofs.YtocecpghoncmgaaGreatDoor
open Go.RowKit
structure NV where
 nA:Option Addr
 nL:Nat
 nC:Nat
 mA:Option Addr
 mL:Nat
 mC:Nat
 aA:Option Addr
 aL:Nat
 aC:Nat
section
variable {T:TypeId} {w w':World} {g:Nat} {e:NV}
end
theorem drop_none {α:Type} {l:List α} {i:Nat} (h:l.length<=i):l.drop i=[]:=List.drop_eq_nil_of_le h
theorem drop_at {α:Type} {l:List α} {i:Nat} {x:α} (h:l[i]?=some x):l.drop i=x::l.drop (i+1):=by
 obtain ⟨hl,he⟩:=List.getElem?_eq_some_iff.1 h;rw [List.drop_eq_getElem_cons hl,he]
end Go.Proofs.YtocecpghoncmgaaGreatDoor
namespace Go.Proofs.YtocecpghoncmgaaGreatDoor
open Go.RowKit
theorem GV.leneq {w:World} {lo hi:Nat} {x:GX} {v:EV} (h:GV w lo hi x v):v.len=x.subs.length:=h.out.2.2.2.2.2.1
theorem GV.lecap {w:World} {lo hi:Nat} {x:GX} {v:EV} (h:GV w lo hi x v):v.len<=v.cap:=h.out.2.2.2.2.2.2.1
theorem sub_lt {x z:GX} {i:Nat} (h:x.subs[i]?=some z):SizeOf.sizeOf z<SizeOf.sizeOf x:=by
 obtain ⟨k,n,s,o,l,p⟩:=x;have h1:=List.sizeOf_lt_of_mem (List.mem_of_getElem? (show l[i]?=some z from h));simp only [GX.mk.sizeOf_spec];omega
end Go.Proofs.YtocecpghoncmgaaGreatDoor
namespace Go.Proofs.YtocecpghoncmgaaGreatDoor
open Go.RowKit
theorem ownsRow_below {w w':World} {base:Nat} {e:TypeId} {s:Nat} {v:Value} {n:Nat} {xs:List Value} (h:w.ownsRow base e s v n xs) (hb:Below w.heap.size w w'):w'.ownsRow base e s v n xs:=by
 refine ⟨h.1,?_⟩;rcases h.2 with h2|⟨g,cap,cur,a1,a2,a3,a4⟩
 ·exact .inl h2
 ·exact .inr ⟨g,cap,cur,a1,a2,(hb.block g (Array.getElem?_eq_some_iff.1 a3).1).trans a3,a4⟩
theorem step_app {P:Program} {ops:Array Oper} {o:Oper} {a:Act} {w:World} {K:Act->World->Prop} {Q:Exit->Act->World->Prop} {E:Prop} (hg:o.guard=none) (s x:Operand) (t:TypeId)
  (hop:o.op=Op.call { callee:=Callee.builtin Builtin.append,args:=#[s,x],argTypes:=#[t,t] }) (sv xv:Value) (hs:a.eval s=sv) (hx:a.eval x=xv) {R:Value->World->Prop}
  (h:∃v' w',(Builtin.append_ #[t,t] o.type #[sv,xv]).run P w=.ok v' w'/\R v' w') (hK:∀v' w',R v' w'->K (a.put o.dst v') w') :
  if Region.wanted o (yielded ops a.tmps)=true then Oper.wp P o a w K Q else E:=by
 have hw:Region.wanted o (yielded ops a.tmps)=true:=by simp [Region.wanted,hg]
 rw [if_pos hw];obtain ⟨v',w',hrun,r⟩:=h;unfold Oper.wp;simp [execOp,hop,resolve,invoke,builtin,hs,hx,hrun,Result.andThen];exact hK v' w' r
end Go.Proofs.YtocecpghoncmgaaGreatDoor
namespace Go.Proofs.YtocecpghoncmgaaGreatDoor
open Go.RowKit
theorem sub_gv {w:World} {o:Bool} {k n op p:Int} {s:List UInt8} {l:List GX} {x:Value} {F:List Nat} (h:DvAt w (.sub o l) x F):∃v:EV,x=.slice v.A v.len v.cap/\v.kind=k/\v.num=n/\txV s=.string v.name/\v.op=op/\v.p=p/\GV w 0 w.heap.size (.mk k n s op l p) v:=by
 unfold DvAt at h;obtain ⟨lo,hi,⟨A,c,rfl,h1,h2,h3,h4,h5⟩,_⟩:=h;refine ⟨⟨k,n,⟨s.toArray⟩,op,A,l.length,c,p⟩,rfl,rfl,rfl,rfl,rfl,rfl,?_⟩;refine ⟨rfl,rfl,rfl,rfl,rfl,rfl,h1,h2,?_⟩
 cases o with
 |false=>exact GRow.mono (Nat.zero_le _) h4 h5
 |true =>
  rcases h5 with h5|⟨g,cs,e,a,b,d,h⟩
  ·rw [h5];unfold GRow;trivial
  ·rw [e];exact GRow.mono (Nat.zero_le _) h4 (GWs.grow a b (n_ _) (Nat.le_of_lt b) h)
def aG (pl:Bool) (a b:SyAct):Prop:=a.kind=b.kind/\a.name=b.name/\sm pl (gxO a.value) (gxO b.value)=true/\(pl=true->a.at_=b.at_)
def asG (pl:Bool) (l l':List SyAct):Prop:=l.length=l'.length/\∀(i:Nat) (a b:SyAct),l[i]?=some a->l'[i]?=some b->aG pl a b
end Go.Proofs.YtocecpghoncmgaaGreatDoor
namespace Go.Proofs.YtocecpghoncmgaaGreatDoor
open Go.RowKit
def mG (pl:Bool) (a b:SyMove):Prop:=a.kind=b.kind/\a.event=b.event/\a.wait=b.wait/\a.guarded=b.guarded/\sm pl (gxO a.guard) (gxO b.guard)=true/\asG pl a.acts b.acts/\a.targets=b.targets/\(pl=true->a.at_=b.at_)
end Go.Proofs.YtocecpghoncmgaaGreatDoor
namespace Go.Proofs.YtocecpghoncmgaaGreatDoor
open Go.RowKit
structure GA where
 kind:Int
 name:List UInt8
 val:GX
 at_:Int
structure GM where
 kind:Int
 event:List UInt8
 wait:Int
 guarded:Bool
 guard:GX
 acts:List GA
 targets:List (List UInt8)
 at_:Int
inductive GN where
 |mk (kind:Int) (name initial dflt:List UInt8) (enter leave:List GA) (moves:List GM) (kids:List GN) (at_:Int)
structure GC where
 vars:List SyVar
 root:GN
def gEx (x:GX):List DV:=[.v (.int .i64 x.kind),.v (.int .i64 x.num),.v (txV x.name),.v (.int .i64 x.op),.sub false x.subs,.v (.int .i64 x.p)]
def gAct (a:GA):List DV:=[.v (.int .i64 a.kind),.v (txV a.name)]++gEx a.val++[.v (.int .i64 a.at_)]
def gActs (l:List GA):DV:=.row 156 9 l.length (l.flatMap gAct)
def gMove (m:GM):List DV:=[.v (.int .i64 m.kind),.v (txV m.event),.v (.int .i64 m.wait),.v (.bool m.guarded)]++gEx m.guard++[gActs m.acts,dvStrs m.targets,.v (.int .i64 m.at_)]
def gMoves (l:List GM):DV:=.row 57 13 l.length (l.flatMap gMove)
mutual
def gNode:GN->List DV
 |.mk k name ini dft en le mo ks p=>[.v (.int .i64 k),.v (txV name),.v (txV ini),.v (txV dft),gActs en,gActs le,gMoves mo,.row 27 9 ks.length (gNodes ks),.v (.int .i64 p)]
def gNodes:List GN->List DV
 |[]=>[]
 |x::l=>gNode x++gNodes l
end
def gKids (l:List GN):DV:=.row 27 9 l.length (gNodes l)
def gChart (c:GC):List DV:=dvVars c.vars::gNode c.root
theorem gNodes_flat:∀l:List GN,gNodes l=l.flatMap gNode
 |[]=>by rw [gNodes];rfl
 |x::l=>by rw [gNodes,gNodes_flat l];rfl
theorem gNode_mk (k:Int) (name ini dft:List UInt8) (en le:List GA) (mo:List GM) (ks:List GN) (p:Int) :
  gNode (.mk k name ini dft en le mo ks p)=[.v (.int .i64 k),.v (txV name),.v (txV ini),.v (txV dft),gActs en,gActs le,gMoves mo,gKids ks,.v (.int .i64 p)]:=by rw [gNode];rfl
theorem gAct_len (a:GA):(gAct a).length=9:=rfl
theorem gMove_len (a:GM):(gMove a).length=13:=rfl
theorem gNode_len:∀a:GN,(gNode a).length=9
 |.mk ..=>by rw [gNode_mk];rfl
theorem dvVar_len (a:SyVar):(dvVar a).length=3:=rfl
mutual
def DxAt (w:World):DV->Value->Prop
 |.v u,x=>x=u/\u.oneCell'=true
 |.sub _ l,x=>∃A c,x=.slice A l.length c/\l.length<=c/\c<=maxLen/\GRow w 0 w.heap.size l A 0
 |.row _ _ n cs,x=>∃A c xs,x=.slice A n c/\n<=c/\c<=maxLen/\(cs=[]∨∃g o,A=some ⟨g,o,none⟩/\g<w.heap.size/\∀i u,xs[i]?=some u->w.cell? ⟨g,o+i,none⟩=some u)/\DxsAt w cs xs
def DxsAt (w:World):List DV->List Value->Prop
 |[],xs=>xs=[]
 |d::ds,xs=>∃x ys,xs=x::ys/\DxAt w d x/\DxsAt w ds ys
end
mutual
theorem DxAt.below {w w':World} (hb:Below w.heap.size w w'):∀{d:DV} {x:Value},DxAt w d x->DxAt w' d x
 |.v _,_,h=>by unfold DxAt at h ⊢;exact h
 |.sub _ l,_,h=>by
  unfold DxAt at h ⊢;obtain ⟨A,c,h1,h2,h3,h4⟩:=h;exact ⟨A,c,h1,h2,h3,GRow.mono (n_ _) hb.size (GRow.same (λ g _ h=>hb.block g h) h4)⟩
 |.row _ _ _ cs,_,h=>by
  unfold DxAt at h ⊢;obtain ⟨A,c,xs,h1,h2,h3,h4,h5⟩:=h;refine ⟨A,c,xs,h1,h2,h3,?_,DxsAt.below hb h5⟩;rcases h4 with h4|⟨g,o,h6,h7,h8⟩
  ·exact .inl h4
  ·exact .inr ⟨g,o,h6,Nat.lt_of_lt_of_le h7 hb.size,λ i u hu=>by rw [World.cell?_of_block (hb.block g h7)];exact h8 i u hu⟩
theorem DxsAt.below {w w':World} (hb:Below w.heap.size w w'):∀{ds:List DV} {xs:List Value},DxsAt w ds xs->DxsAt w' ds xs
 |[],_,h=>by unfold DxsAt at h ⊢;exact h
 |d::ds,_,h=>by
  unfold DxsAt at h ⊢;obtain ⟨x,ys,h1,h2,h3⟩:=h;exact ⟨x,ys,h1,h2.below hb,DxsAt.below hb h3⟩
end
theorem DxAt.val {w:World} {u x:Value} (h:DxAt w (.v u) x):x=u:=by unfold DxAt at h;exact h.1
theorem DxAt.plain (w:World) {u:Value} (h:u.oneCell'=true):DxAt w (.v u) u:=by unfold DxAt;exact ⟨rfl,h⟩
theorem DxsAt.nil (w:World):DxsAt w [] []:=by unfold DxsAt;rfl
theorem DxsAt.cons {w:World} {d:DV} {x:Value} {ds:List DV} {xs:List Value} (h:DxAt w d x) (h2:DxsAt w ds xs):DxsAt w (d::ds) (x::xs):=by
 unfold DxsAt;exact ⟨x,xs,rfl,h,h2⟩
theorem DxsAt.v {w:World} {u:Value} {ds:List DV} {xs:List Value} (hu:u.oneCell'=true) (h:DxsAt w ds xs):DxsAt w (.v u::ds) (u::xs):=DxsAt.cons (DxAt.plain w hu) h
theorem DxsAt.uncons {w:World} {d:DV} {ds:List DV} {xs:List Value} (h:DxsAt w (d::ds) xs):∃x ys,xs=x::ys/\DxAt w d x/\DxsAt w ds ys:=by
 unfold DxsAt at h;exact h
theorem DxAt.slice {w:World} {e:TypeId} {k n:Nat} {cs:List DV} {x:Value} (h:DxAt w (.row e k n cs) x):∃A c,x=.slice A n c/\n<=c/\c<=maxLen:=by
 unfold DxAt at h;obtain ⟨A,c,xs,h1,h2,h3,_⟩:=h;exact ⟨A,c,h1,h2,h3⟩
theorem DxAt.one {w:World} {d:DV} {x:Value} (h:DxAt w d x):x.oneCell'=true:=by
 cases d with
 |v u=>unfold DxAt at h;rw [h.1];exact h.2
 |sub o l=>unfold DxAt at h;obtain ⟨A,c,rfl,_⟩:=h;rfl
 |row e k n cs=>unfold DxAt at h;obtain ⟨A,c,xs,rfl,_⟩:=h;rfl
theorem DxsAt.ones {w:World}:∀{ds:List DV} {xs:List Value},DxsAt w ds xs->∀u∈xs,u.oneCell'=true
 |[],_,h,u,hu=>by unfold DxsAt at h;rw [h] at hu;cases hu
 |d::ds,_,h,u,hu=>by
  obtain ⟨x,ys,rfl,h1,h2⟩:=h.uncons;rcases List.mem_cons.1 hu with rfl|hu
  ·exact h1.one
  ·exact DxsAt.ones h2 u hu
theorem DxsAt.len {w:World}:∀{ds:List DV} {xs:List Value},DxsAt w ds xs->xs.length=ds.length
 |[],_,h=>by unfold DxsAt at h;rw [h];rfl
 |d::ds,_,h=>by
  obtain ⟨x,ys,rfl,h1,h2⟩:=h.uncons;simp [DxsAt.len h2]
theorem DxsAt.app {w:World}:∀{ds:List DV} {xs:List Value} {ds':List DV} {xs':List Value},DxsAt w ds xs->DxsAt w ds' xs'->DxsAt w (ds++ds') (xs++xs')
 |[],_,_,_,h,h'=>by
  unfold DxsAt at h;rw [h];exact h'
 |d::ds,_,_,_,h,h'=>by
  obtain ⟨x,ys,rfl,h1,h2⟩:=h.uncons;exact DxsAt.cons h1 (DxsAt.app h2 h')
theorem DxsAt.cut {w:World}:∀{ds:List DV} {ds':List DV} {xs:List Value},DxsAt w (ds++ds') xs->∃xs1 xs2,xs=xs1++xs2/\DxsAt w ds xs1/\DxsAt w ds' xs2
 |[],ds',xs,h=>⟨[],xs,rfl,DxsAt.nil w,h⟩
 |d::ds,ds',_,h=>by
  rw [List.cons_append] at h;obtain ⟨x,ys,rfl,h1,h2⟩:=h.uncons;obtain ⟨xs1,xs2,rfl,h3,h4⟩:=DxsAt.cut h2;exact ⟨x::xs1,xs2,rfl,DxsAt.cons h1 h3,h4⟩
theorem DxsAt.elem {α:Type} {f:α->List DV} {k:Nat} (hk:∀a,(f a).length=k) {w:World}:∀{l:List α} {xs:List Value},DxsAt w (l.flatMap f) xs->∀{i:Nat} {a:α},l[i]?=some a->∃ys,DxsAt w (f a) ys/\ys.length=k/\∀j u,ys[j]?=some u->xs[i*k+j]?=some u
 |[],_,_,i,a,h=>by simp at h
 |x::l,xs,hd,i,a,h=>by
  rw [List.flatMap_cons] at hd;obtain ⟨xs1,xs2,rfl,h1,h2⟩:=hd.cut
  have hl:xs1.length=k:=by rw [h1.len];exact hk x
  match i,h with
  |0,h =>
   obtain rfl:x=a:=by simpa using h
   refine ⟨xs1,h1,hl,λ j u hj=>?_⟩;rw [Nat.zero_mul,Nat.zero_add,List.getElem?_append_left (List.getElem?_eq_some_iff.1 hj).1];exact hj
  |i+1,h =>
   obtain ⟨ys,h3,h4,h5⟩:=DxsAt.elem hk h2 (i:=i) (a:=a) (by simpa using h);refine ⟨ys,h3,h4,λ j u hj=>?_⟩;rw [List.getElem?_append_right (by rw [hl,Nat.succ_mul];omega),hl,Nat.succ_mul,show i*k+k+j-k=i*k+j from by omega];exact h5 j u hj
theorem DxAt.elem {α:Type} {f:α->List DV} {k:Nat} (hk:∀a,(f a).length=k) (hp:0<k) {w:World} {e:TypeId} {l:List α} {x:Value} (h:DxAt w (.row e k l.length (l.flatMap f)) x) {i:Nat} {a:α} (hi:l[i]?=some a) :
  ∃g o c ys,x=.slice (some ⟨g,o,none⟩) l.length c/\l.length<=c/\c<=maxLen/\g<w.heap.size/\DxsAt w (f a) ys/\ys.length=k/\∀j u,ys[j]?=some u->w.cell? ⟨g,o+i*k+j,none⟩=some u:=by
 unfold DxAt at h;obtain ⟨A,c,xs,rfl,h2,h3,h4,h5⟩:=h;obtain ⟨ys,h6,h7,h8⟩:=h5.elem hk hi;rcases h4 with h4|⟨g,o,rfl,h9,ha⟩
 ·rw [h4] at h5;unfold DxsAt at h5;have:=h8 0 ys[0] (List.getElem?_eq_getElem (by omega));rw [h5] at this;simp at this
 ·exact ⟨g,o,c,ys,rfl,h2,h3,h9,h6,h7,λ j u hj=>by rw [Nat.add_assoc];exact ha _ _ (h8 j u hj)⟩
theorem sub_gv' {w:World} {o:Bool} {k n op p:Int} {s:List UInt8} {l:List GX} {x:Value} (h:DxAt w (.sub o l) x):∃v:EV,x=.slice v.A v.len v.cap/\v.kind=k/\v.num=n/\txV s=.string v.name/\v.op=op/\v.p=p/\GV w 0 w.heap.size (.mk k n s op l p) v:=by
 unfold DxAt at h;obtain ⟨A,c,rfl,h1,h2,h3⟩:=h;exact ⟨⟨k,n,⟨s.toArray⟩,op,A,l.length,c,p⟩,rfl,rfl,rfl,rfl,rfl,rfl,rfl,rfl,rfl,rfl,rfl,rfl,h1,h2,h3⟩
theorem gEx_vals {w:World} {x:GX} {ds:List DV} {xs:List Value} (h:DxsAt w (gEx x++ds) xs):∃(ev:EV) (ys:List Value),xs=.int .i64 ev.kind::.int .i64 ev.num::.string ev.name::.int .i64 ev.op::.slice ev.A ev.len ev.cap::.int .i64 ev.p::ys/\GV w 0 w.heap.size x ev/\DxsAt w ds ys:=by
 unfold gEx at h;simp only [List.cons_append,List.nil_append] at h;obtain ⟨x0,ys,rfl,d0,q1⟩:=h.uncons;obtain ⟨x1,ys,rfl,d1,q2⟩:=q1.uncons;obtain ⟨x2,ys,rfl,d2,q3⟩:=q2.uncons;obtain ⟨x3,ys,rfl,d3,q4⟩:=q3.uncons;obtain ⟨x4,ys,rfl,d4,q5⟩:=q4.uncons;obtain ⟨x5,ys,rfl,d5,q6⟩:=q5.uncons;obtain ⟨ev,rfl,e1,e2,e3,e4,e5,e6⟩:=sub_gv' (k:=x.kind) (n:=x.num) (s:=x.name) (op:=x.op) (p:=x.p) d4;refine ⟨ev,ys,?_,?_,q6⟩
 ·rw [d0.val,d1.val,d2.val,d3.val,d5.val,e1,e2,e3,e4,e5]
 ·cases x with
  |mk k n s o l p=>exact e6
theorem act_vals' {w:World} {a:GA} {xs:List Value} (h:DxsAt w (gAct a) xs):∃ev:EV,xs=[.int .i64 a.kind,txV a.name,.int .i64 ev.kind,.int .i64 ev.num,.string ev.name,.int .i64 ev.op,.slice ev.A ev.len ev.cap,.int .i64 ev.p,.int .i64 a.at_]/\GV w 0 w.heap.size a.val ev:=by
 unfold gAct at h;simp only [List.cons_append,List.nil_append] at h;obtain ⟨x0,ys,rfl,d0,q1⟩:=h.uncons;obtain ⟨x1,ys,rfl,d1,q2⟩:=q1.uncons;obtain ⟨ev,ys,rfl,hg,q3⟩:=gEx_vals q2;obtain ⟨x2,ys,rfl,d2,q4⟩:=q3.uncons;unfold DxsAt at q4;subst q4;exact ⟨ev,by rw [d0.val,d1.val,d2.val],hg⟩
theorem move_vals' {w:World} {m:GM} {xs:List Value} (h:DxsAt w (gMove m) xs):∃(ev:EV) (A1 A2:Option Addr) (c1 c2:Nat),xs=[.int .i64 m.kind,txV m.event,.int .i64 m.wait,.bool m.guarded,.int .i64 ev.kind,.int .i64 ev.num,.string ev.name,.int .i64 ev.op,.slice ev.A ev.len ev.cap,.int .i64 ev.p,.slice A1 m.acts.length c1,.slice A2 m.targets.length c2,.int .i64 m.at_] /\
  GV w 0 w.heap.size m.guard ev/\DxAt w (gActs m.acts) (.slice A1 m.acts.length c1)/\DxAt w (dvStrs m.targets) (.slice A2 m.targets.length c2):=by
 unfold gMove at h;simp only [List.cons_append,List.nil_append] at h;obtain ⟨x0,ys,rfl,d0,q1⟩:=h.uncons;obtain ⟨x1,ys,rfl,d1,q2⟩:=q1.uncons;obtain ⟨x2,ys,rfl,d2,q3⟩:=q2.uncons;obtain ⟨x3,ys,rfl,d3,q4⟩:=q3.uncons;obtain ⟨ev,ys,rfl,hg,q5⟩:=gEx_vals q4;obtain ⟨x4,ys,rfl,d4,q6⟩:=q5.uncons;obtain ⟨x5,ys,rfl,d5,q7⟩:=q6.uncons;obtain ⟨x6,ys,rfl,d6,q8⟩:=q7.uncons;unfold DxsAt at q8;subst q8;obtain ⟨A1,c1,rfl,_⟩:=DxAt.slice (show DxAt w (.row _ 9 m.acts.length _) x4 from d4);obtain ⟨A2,c2,rfl,_⟩:=DxAt.slice (show DxAt w (.row _ 1 m.targets.length _) x5 from d5);exact ⟨ev,A1,A2,c1,c2,by rw [d0.val,d1.val,d2.val,d3.val,d6.val],hg,d4,d5⟩
theorem node_vals' {w:World} {k p:Int} {nm ini dft:List UInt8} {en le:List GA} {mo:List GM} {ks:List GN} {ds:List DV} {xs:List Value} (h:DxsAt w (gNode (.mk k nm ini dft en le mo ks p)++ds) xs) :
  ∃(A1 A2 A3 A4:Option Addr) (c1 c2 c3 c4:Nat) (ys:List Value),xs=.int .i64 k::txV nm::txV ini::txV dft::.slice A1 en.length c1::.slice A2 le.length c2::.slice A3 mo.length c3::.slice A4 ks.length c4::.int .i64 p::ys /\
   DxAt w (gActs en) (.slice A1 en.length c1)/\DxAt w (gActs le) (.slice A2 le.length c2)/\DxAt w (gMoves mo) (.slice A3 mo.length c3)/\DxAt w (gKids ks) (.slice A4 ks.length c4)/\DxsAt w ds ys:=by
 rw [gNode_mk] at h;simp only [List.cons_append,List.nil_append] at h;obtain ⟨x0,ys,rfl,d0,q1⟩:=h.uncons;obtain ⟨x1,ys,rfl,d1,q2⟩:=q1.uncons;obtain ⟨x2,ys,rfl,d2,q3⟩:=q2.uncons;obtain ⟨x3,ys,rfl,d3,q4⟩:=q3.uncons;obtain ⟨x4,ys,rfl,d4,q5⟩:=q4.uncons;obtain ⟨x5,ys,rfl,d5,q6⟩:=q5.uncons;obtain ⟨x6,ys,rfl,d6,q7⟩:=q6.uncons;obtain ⟨x7,ys,rfl,d7,q8⟩:=q7.uncons;obtain ⟨x8,ys,rfl,d8,q9⟩:=q8.uncons;obtain ⟨A1,c1,rfl,_⟩:=DxAt.slice (show DxAt w (.row _ 9 en.length _) x4 from d4);obtain ⟨A2,c2,rfl,_⟩:=DxAt.slice (show DxAt w (.row _ 9 le.length _) x5 from d5);obtain ⟨A3,c3,rfl,_⟩:=DxAt.slice (show DxAt w (.row _ 13 mo.length _) x6 from d6);obtain ⟨A4,c4,rfl,_⟩:=DxAt.slice (show DxAt w (.row _ 9 ks.length _) x7 from d7);exact ⟨A1,A2,A3,A4,c1,c2,c3,c4,ys,by rw [d0.val,d1.val,d2.val,d3.val,d8.val],d4,d5,d6,d7,q9⟩
theorem var_vals' {w:World} {a:SyVar} {xs:List Value} (h:DxsAt w (dvVar a) xs):xs=[txV a.name,.int .i64 a.num,.int .i64 a.at_]:=by
 unfold dvVar at h;obtain ⟨x0,ys,rfl,d0,q1⟩:=h.uncons;obtain ⟨x1,ys,rfl,d1,q2⟩:=q1.uncons;obtain ⟨x2,ys,rfl,d2,q3⟩:=q2.uncons;unfold DxsAt at q3;subst q3;rw [d0.val,d1.val,d2.val]
theorem acts_at {w:World} {l:List GA} {v:Value} (h:DxAt w (gActs l) v) {i:Nat} {a:GA} (hi:l[i]?=some a) :
  ∃g o c ev,v=.slice (some ⟨g,o,none⟩) l.length c/\g<w.heap.size/\w.cell? ⟨g,o+i*9,none⟩=some (.int .i64 a.kind)/\w.cell? ⟨g,o+i*9+1,none⟩=some (txV a.name)/\EvAt w g (o+i*9+2) ev/\GV w 0 w.heap.size a.val ev/\w.cell? ⟨g,o+i*9+8,none⟩=some (.int .i64 a.at_):=by
 obtain ⟨g,o,c,ys,hv,_,_,hg,h1,_,h2⟩:=DxAt.elem gAct_len (by decide) (show DxAt w (.row _ 9 l.length (l.flatMap gAct)) v from h) hi;obtain ⟨ev,rfl,h3⟩:=act_vals' h1;exact ⟨g,o,c,ev,hv,hg,h2 0 _ rfl,h2 1 _ rfl,⟨h2 2 _ rfl,h2 3 _ rfl,h2 4 _ rfl,h2 5 _ rfl,h2 6 _ rfl,h2 7 _ rfl⟩,h3,h2 8 _ rfl⟩
theorem strs_dx {w:World} {l:List (List UInt8)} {v:Value} (h:DxAt w (dvStrs l) v):∃A c,v=.slice A l.length c/\l.length<=c/\c<=maxLen/\StrAt w A (l.map λ s=>(⟨s.toArray⟩:ByteArray)):=by
 have h':DxAt w (.row 9 1 l.length (l.flatMap λ s=>[.v (txV s)])) v:=by
  unfold dvStrs at h;rw [show (l.flatMap λ s=>[DV.v (txV s)])=l.map λ s=>.v (txV s) from by rw [List.map_eq_flatMap]];exact h
 obtain ⟨A,c,hv,h1,h2⟩:=h.slice;refine ⟨A,c,hv,h1,h2,λ i s hi=>?_⟩;rw [List.getElem?_map] at hi;obtain ⟨t,ht,rfl⟩:=Option.map_eq_some_iff.1 hi;obtain ⟨g,o,c',ys,hv',_,_,hg,h3,_,h4⟩:=DxAt.elem (f:=λ s:List UInt8=>[DV.v (txV s)]) (k:=1) (λ _=>rfl) (by decide) h' ht;rw [hv] at hv'
 obtain rfl:A=some ⟨g,o,none⟩:=by injection hv'
 obtain ⟨x,ys,rfl,h5,_⟩:=h3.uncons;refine ⟨g,o,rfl,hg,?_⟩;have:=h4 0 _ rfl;rw [h5.val,Nat.mul_one] at this;exact this
mutual
def DV.pl:DV->DV
 |.v u=>.v u
 |.sub _ l=>.sub false l
 |.row e k n cs=>.row e k n (DV.pls cs)
def DV.pls:List DV->List DV
 |[]=>[]
 |d::ds=>d.pl::DV.pls ds
end
theorem pls_map:∀l:List DV,DV.pls l=l.map DV.pl
 |[]=>by rw [DV.pls];rfl
 |d::ds=>by rw [DV.pls,pls_map ds];rfl
mutual
theorem DvAt.dx {w:World}:∀{d:DV} {x:Value} {F:List Nat},DvAt w d x F->DxAt w d.pl x
 |.v u,x,F,h=>by
  unfold DvAt at h;rw [DV.pl];unfold DxAt;exact ⟨h.1,h.2.2⟩
 |.sub o l,x,F,h=>by
  obtain ⟨v,rfl,_,_,_,_,_,hg⟩:=sub_gv (k:=0) (n:=0) (op:=0) (p:=0) (s:=[]) h;obtain ⟨_,_,_,_,_,a6,a7,a8,a9⟩:=hg.out;rw [DV.pl];unfold DxAt;have a6':v.len=l.length:=a6;exact ⟨v.A,v.cap,by rw [a6'],by rw [<-a6'];exact a7,a8,a9⟩
 |.row e k n cs,x,F,h=>by
  unfold DvAt at h;obtain ⟨xs,H,h1,rfl,h2⟩:=h;rw [DV.pl];unfold DxAt;have h3:=DvsAt.dx h2;rcases h1.2 with ⟨rfl,h0⟩|⟨g,c,cur,rfl,_,hg,hc1,hc2,hc3,hc4⟩
  ·have h4:xs=[]:=List.eq_nil_of_length_eq_zero (by rw [h1.1,h0,Nat.zero_mul]);subst h4;have h5:cs=[]:=List.eq_nil_of_length_eq_zero h2.len.symm;subst h5;exact ⟨none,0,[],by rw [h0],by omega,by decide,.inl (by rw [DV.pls]),by rw [DV.pls];exact DxsAt.nil w⟩
  ·refine ⟨some ⟨g,0,none⟩,c,xs,rfl,hc1,hc2,.inr ⟨g,0,rfl,(Array.getElem?_eq_some_iff.1 hg).1,λ i u hu=>?_⟩,h3⟩;rw [Nat.zero_add,cell_of_row w g i _ _ _ hg];rw [<-hc4,List.getElem?_take] at hu
   split at hu
   ·simpa using hu
   ·cases hu
theorem DvsAt.dx {w:World}:∀{ds:List DV} {xs:List Value} {F:List Nat},DvsAt w ds xs F->DxsAt w (DV.pls ds) xs
 |[],xs,F,h=>by unfold DvsAt at h;rw [DV.pls];unfold DxsAt;exact h.1
 |d::ds,xs,F,h=>by
  unfold DvsAt at h;obtain ⟨x,ys,F1,F2,rfl,rfl,h1,h2⟩:=h;rw [DV.pls];exact DxsAt.cons h1.dx (DvsAt.dx h2)
end
end Go.Proofs.YtocecpghoncmgaaGreatDoor
namespace Go.Proofs.YtocecpghoncmgaaGreatDoor
def actW (k:Int):List UInt8:=if k=1 then wSet else if k=2 then wRaise else wEmit
def Ex.may (x:Ex):Prop:=x.fine/\x.nst<=20
structure SyAct.good (a:SyAct):Prop where
 kind:a.kind=1∨a.kind=2∨a.kind=3
 name:isNm a.name=true
 raise:a.kind=2->a.value=none
 value:a.kind≠2->∃x,a.value=some x/\x.may
def moveW (k:Int):List UInt8:=if k=1 then wOn else if k=2 then wAlways else wAfter
structure SyMove.good (m:SyMove):Prop where
 kind:m.kind=1∨m.kind=2∨m.kind=3
 event:(m.kind=1/\isNm m.event=true)∨(m.kind≠1/\m.event=[])
 wait:(m.kind=3/\0<=m.wait/\m.wait<=9223372036854775807)∨(m.kind≠3/\m.wait=0)
 guarded:m.guarded=m.guard.isSome
 guard:∀x,m.guard=some x->x.may
 acts:∀a∈m.acts,a.good
 targets:∀t∈m.targets,isNm t=true
end Go.Proofs.YtocecpghoncmgaaGreatDoor
namespace Go.Proofs.YtocecpghoncmgaaGreatDoor
def nodeW (k:Int):List UInt8:=if k=1 then wState else if k=2 then wParallel else if k=3 then wHistory else wDeep
end Go.Proofs.YtocecpghoncmgaaGreatDoor
namespace Go.Proofs.YtocecpghoncmgaaGreatDoor
def kwOk:List UInt8->Bool
 |[]=>false
 |c::u=>isLt c&&decide (wdK (c::u)=(c::u).length)&&decide ((c::u).length<=24)&&isKw (c::u)
def valT:Option Ex->List UInt8
 |none=>[59]
 |some x=>32::([61,32]++(x.tx++[59]))
def actT (a:SyAct):List UInt8:=actW a.kind++32::(a.name++valT a.value)
def actsT:List SyAct->List UInt8
 |[]=>[]
 |a::l=>32::(actT a++actsT l)
def blockT (l:List SyAct):List UInt8:=[123]++(actsT l++32::[125])
def gdT:Option Ex->List UInt8
 |none=>[]
 |some x=>32::([91]++(x.tx++[93]))
def blkT (l:List SyAct):List UInt8:=if l=[] then [] else 32::blockT l
def tgT1:List (List UInt8)->List UInt8
 |[]=>[]
 |y::l=>[44]++32::(y++tgT1 l)
def tgtT:List (List UInt8)->List UInt8
 |[]=>[]
 |x::l=>32::([45,62]++32::(x++tgT1 l))
def evT (m:SyMove):List UInt8:=if m.kind=1 then 32::m.event else if m.kind=2 then [] else 32::Lib.itoa m.wait
def moveT (m:SyMove):List UInt8:=moveW m.kind++(evT m++(gdT m.guard++(blkT m.acts++(tgtT m.targets++[59]))))
theorem actW_ok {k:Int} (h:k=1∨k=2∨k=3):kwOk (actW k)=true:=by rcases h with rfl|rfl|rfl <;> decide
end Go.Proofs.YtocecpghoncmgaaGreatDoor
namespace Go.Proofs.YtocecpghoncmgaaGreatDoor
def ind (d:Nat) (s:List UInt8):List UInt8:=List.replicate (2*d) 32++(s++[10])
def iniT (d:Nat) (i:List UInt8):List UInt8:=if i=[] then [] else ind d (wInitial++32::(i++[59]))
def clT (d:Nat) (w:List UInt8) (l:List SyAct):List UInt8:=if l=[] then [] else ind d (w++32::blockT l)
def mvsT (d:Nat):List SyMove->List UInt8
 |[]=>[]
 |m::l=>ind d (moveT m)++mvsT d l
mutual
def nodeT (d:Nat):SyNode->List UInt8
 |.mk k nm ini dft en le mo ks _=>if 3<=k then ind d (nodeW k++32::(nm++32::([45,62]++32::(dft++[59]))))
  else ind d (nodeW k++32::(nm++32::[123]))++(iniT (d+1) ini++(clT (d+1) wEnter en++(clT (d+1) wLeave le++(mvsT (d+1) mo++(nodesT (d+1) ks++ind d [125])))))
def nodesT (d:Nat):List SyNode->List UInt8
 |[]=>[]
 |x::l=>nodeT d x++nodesT d l
end
def pvarT (v:SyVar):List UInt8:=wVar++32::(v.name++32::([61,32]++(Lib.itoa v.num++[59])))
def pvarsT:List SyVar->List UInt8
 |[]=>[]
 |v::l=>ind 1 (pvarT v)++pvarsT l
def chartT (c:SyChart):List UInt8:=match c.root with
 |.mk _ nm ini _ en le mo ks _=>ind 0 (wChart++32::(nm++32::[123]))++(pvarsT c.vars++(iniT 1 ini++(clT 1 wEnter en++(clT 1 wLeave le++(mvsT 1 mo++(nodesT 1 ks++ind 0 [125]))))))
theorem nodeW_ok {k:Int} (h:k=1∨k=2∨k=3∨k=4):kwOk (nodeW k)=true:=by rcases h with rfl|rfl|rfl|rfl <;> decide
end Go.Proofs.YtocecpghoncmgaaGreatDoor
