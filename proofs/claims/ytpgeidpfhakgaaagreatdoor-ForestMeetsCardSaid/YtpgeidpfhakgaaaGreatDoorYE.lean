import Derived.Test.YtpgeidpfhakgaaaGreatDoorQh
import Derived.Test.YtpgeidpfhakgaaaGreatDoorYC
import Derived.Test.YtpgeidpfhakgaaaGreatDoorYD
set_option maxHeartbeats 12800000
set_option maxRecDepth 20000
namespace Go.Proofs.YtpgeidpfhakgaaaGreatDoor
open Go.RowKit
theorem DvsAt.vs (w:World):∀(l:List Value),(∀u∈l,u.oneCell'=true)->DvsAt w (l.map DV.v) l []
 |[],_=>DvsAt.nil w
 |u::l,h=>DvsAt.v (h u (by simp)) (DvsAt.vs w l (λ x hx=>h x (by simp [hx])))
theorem DvAt.last {w:World} {e:TypeId} {k n:Nat} {cs zds:List DV} {v:Value} {F:List Nat} (h:DvAt w (.row e k (n+1) (cs++zds)) v F) (hz:zds.length=k) (hF:F.Nodup) :
  ∃g c cur,v=.slice (some ⟨g,0,none⟩) (n+1) c/\CB w g e cur/\cur.length=c*k/\n+1<=c/\c<=maxLen/\g∈F /\
   ∀(w':World) (ds:List DV) (ys:List Value) (F2:List Nat),Ch (·=g) w w'->CB w' g e (cur.take (n*k)++ys++cur.drop (n*k+ys.length))->DvsAt w ds ys F2->ys.length=k->F2.Nodup->(∀a∈F,a∉F2) ->
    ∃F',DvAt w' (.row e k (n+1) (cs++ds)) v F'/\F'.Nodup/\∀j∈F',j∈F∨j∈F2:=by
 unfold DvAt at h;obtain ⟨xs,H,⟨h1,h2⟩,rfl,h3⟩:=h;rcases h2 with ⟨_,h2⟩|⟨g,c,cur,rfl,_,hg,hc1,hc2,hc3,hc4⟩
 ·omega
 obtain ⟨xs1,xs2,F1,F3,rfl,rfl,d1,d2⟩:=DvsAt.cut h3;have l2:xs2.length=k:=d2.len.trans hz;have e1:(n+1)*k=n*k+k:=Nat.succ_mul n k
 have l1:xs1.length=n*k:=by rw [List.length_append] at h1;omega
 have hle:(n+1)*k<=c*k:=Nat.mul_le_mul_right k hc1
 have lc:cur.toList.length=c*k:=by rw [Array.length_toList];exact hc3
 have ht:cur.toList.take (n*k)=xs1:=by
  have:=congrArg (List.take (n*k)) hc4;rw [List.take_take,Nat.min_eq_left (by omega),List.take_left' l1] at this;exact this
 refine ⟨g,c,cur.toList,rfl,by unfold CB;rw [Array.toArray_toList];exact hg,lc,hc1,hc2,by simp [Value.ownBlock],?_⟩;intro w' ds ys F2 hch hcb hd hl hn2 hdis
 have hgF:g∉F1++F3:=by
  rw [List.nodup_append] at hF;intro hh;exact hF.2.2 g (by simp [Value.ownBlock]) g hh rfl
 have hF1:F1.Nodup:=by
  rw [List.nodup_append] at hF;exact (List.nodup_append.1 hF.2.1).1
 refine ⟨g::(F1++F2),?_,?_,?_⟩
 ·unfold DvAt;refine ⟨xs1++ys,F1++F2,⟨by rw [List.length_append,l1,hl,e1],.inr ⟨g,c,(cur.toList.take (n*k)++ys++cur.toList.drop (n*k+ys.length)).toArray,rfl,Nat.zero_le _,hcb,hc1,hc2,?_,?_⟩⟩,by simp [Value.ownBlock],?_⟩
  ·simp only [List.size_toArray,List.length_append,List.length_take,List.length_drop,lc];omega
  ·show List.take _ (cur.toList.take (n*k)++ys++_)=_;rw [ht,List.take_left' (by rw [List.length_append,l1,hl,e1])]
  ·refine (d1.ch hch (λ a ha e=>hgF (by rw [<-(show a=g from e)];exact List.mem_append_left _ ha))).app (hd.ch hch (λ a ha e=>hdis g (by simp [Value.ownBlock]) (by rw [<-(show a=g from e)];exact ha)))
 ·rw [List.nodup_cons,List.nodup_append];refine ⟨λ hh=>?_,hF1,hn2,λ a ha a' ha' e=>?_⟩
  ·rcases List.mem_append.1 hh with hh|hh
   ·exact hgF (List.mem_append_left _ hh)
   ·exact hdis g (by simp [Value.ownBlock]) hh
  ·subst e;exact hdis a (by simp [ha]) ha'
 ·intro j hj;rcases List.mem_cons.1 hj with rfl|hj
  ·exact .inl (by simp [Value.ownBlock])
  ·rcases List.mem_append.1 hj with hj|hj
   ·exact .inl (by simp [hj])
   ·exact .inr hj
structure BIz (w0:World) (b gl:Nat) (T:TypeId) (vs:List Value) (Pp Pq:World->Prop) (e:TypeId) (k n:Nat) (cs:List DV) (v:Value) (F:List Nat) (pd:List DV->Prop) (zs:List Value) (ic ib ia p:Nat) (vals:Nat->Option Value) (W:World):Prop where
 ch:Ch (λ j=>j=b∨j∈F) w0 W
 p0:p=0->Pp W
 row:p<=1->DvAt W (.row e k n cs) v F
 cell:CB W gl T vs
 bl:∀u,vals ib=some u->∃gs,u=.slice (some ⟨gs,0,none⟩) 1 1/\w0.heap.size<=gs/\CB W gs e zs
 p1:1<=p->∃ys ds F2,vals ic=some (.agg ys.toArray)/\pd ds/\DvsAt W ds ys F2/\ys.length=k/\F2.Nodup/\(∀g∈F2,w0.heap.size<=g)/\Pq W /\
  (2<=p->∃v' F',vals ia=some v'/\DvAt W (.row e k (n+1) (cs++zs.map DV.v)) v' F'/\F'.Nodup/\(∀g∈F',g∈F∨w0.heap.size<=g)/\∀g∈F',g∉F2)
def BFz (w0:World) (b gl:Nat) (T:TypeId) (vs:List Value) (jl:Nat) (Pq:World->Prop) (e:TypeId) (k n:Nat) (cs:List DV) (F:List Nat) (pd:List DV->Prop) (zs:List Value) (ic ia il:Nat) (vals:Nat->Option Value) (W:World):Prop :=
 ∃ys ds F2 v' F',vals ic=some (.agg ys.toArray)/\vals ia=some v'/\vals il=some (.int .i64 (n:Int))/\CB W gl T (vs.set jl v')/\pd ds/\DvsAt W ds ys F2/\ys.length=k/\F2.Nodup/\(∀g∈F2,w0.heap.size<=g)/\Pq W /\
  DvAt W (.row e k (n+1) (cs++zs.map DV.v)) v' F'/\F'.Nodup/\(∀g∈F',g∈F∨w0.heap.size<=g)/\(∀g∈F',g∉F2)/\Ch (λ j=>j=b∨j=gl∨j∈F) w0 W
section
variable {w0 w w':World} {b gl:Nat} {T:TypeId} {vs:List Value} {Pp Pq:World->Prop} {e:TypeId} {k n:Nat} {cs:List DV} {v:Value} {F:List Nat} {pd:List DV->Prop} {zs:List Value} {ic ib ia p:Nat} {vals:Nat->Option Value}
theorem BIz.loc {vals':Nat->Option Value} (h:BIz w0 b gl T vs Pp Pq e k n cs v F pd zs ic ib ia p vals w) (h1:vals' ic=vals ic) (h2:vals' ib=vals ib) (h3:vals' ia=vals ia):BIz w0 b gl T vs Pp Pq e k n cs v F pd zs ic ib ia p vals' w :=
 ⟨h.ch,h.p0,h.row,h.cell,by rw [h2];exact h.bl,by rw [h1,h3];exact h.p1⟩
theorem BIz.zero (hs:Stays b Pp) (hp:Pp w0) (hr:DvAt w0 (.row e k n cs) v F) (hc:CB w0 gl T vs):BIz w0 b gl T vs Pp Pq e k n cs v F pd zs ic ib ia 0 (λ _=>none) w0.drew :=
 ⟨(Ch.refl _ w0).drew,λ _=>hs.below hp (b_ _ w0).drew,λ _=>hr.below (b_ _ w0).drew,hc,λ _ h=>by simp at h,λ h=>absurd h (by omega)⟩
theorem BIz.build (h:BIz w0 b gl T vs Pp Pq e k n cs v F pd zs ic ib ia p vals w) (hs0:Stays b Pp) (hs:Stays b Pq) (d1:ic≠ib) (d2:ia≠ib):BIz w0 b gl T vs Pp Pq e k n cs v F pd zs ic ib ia p (updV vals ib (.slice (some ⟨w.heap.size,0,none⟩) 1 1)) (w.alloc (.cells zs.toArray e)):=by
 have hb:Below w.heap.size w (w.alloc (.cells zs.toArray e)):=(b_ _ w).alloc (n_ _) _;refine ⟨h.ch.trans (Ch.of_below hb),λ e=>hs0.below (h.p0 e) hb,λ e=>(h.row e).below hb,h.cell.below hb,λ u hu=>?_,λ hp=>?_⟩
 ·rw [updV_same] at hu;exact ⟨w.heap.size,(Option.some.inj hu).symm,h.ch.size,CB.new w e zs⟩
 ·obtain ⟨ys,ds,F2,c1,c2,c3,c4,c5,c6,c7,c8⟩:=h.p1 hp;refine ⟨ys,ds,F2,by rw [updV_ne vals _ d1];exact c1,c2,c3.below hb,c4,c5,c6,hs.below c7 hb,λ hp2=>?_⟩;obtain ⟨v',F',a1,a2,a3,a4,a5⟩:=c8 hp2;exact ⟨v',F',by rw [updV_ne vals _ d2];exact a1,a2.below hb,a3,a4,a5⟩
theorem BIz.call (h:BIz w0 b gl T vs Pp Pq e k n cs v F pd zs ic ib ia 0 vals w) {ys:List Value} {ds:List DV} (hd:pd ds) (hr:Rep w' w.heap.size ds ys) (hl:ys.length=k) (hq:Pq w') (hm:Mv b w w') (hgl:gl≠b) (hF:b∉F) (hbw:b<w0.heap.size) (d1:ib≠ic):BIz w0 b gl T vs Pp Pq e k n cs v F pd zs ic ib ia 1 (updV vals ic (.agg ys.toArray)) w':=by
 obtain ⟨F2,f1,f2,f3⟩:=hr;refine ⟨h.ch.trans ((Ch.of_mv hm).mono (λ _ _ h=>.inl h)),λ e=>absurd e (by omega),λ _=>(h.row (by omega)).ch (Ch.of_mv hm) (λ g hg e=>hF (by rw [<-(show g=b from e)];exact hg)),h.cell.mv hm hgl,λ u hu=>?_,λ _=>⟨ys,ds,F2,updV_same _ _ _,hd,f1,hl,f2,λ g hg=>Nat.le_trans h.ch.size (f3 g hg),hq,λ e=>absurd e (by omega)⟩⟩;rw [updV_ne vals _ d1] at hu;obtain ⟨gs,a1,a2,a3⟩:=h.bl u hu;exact ⟨gs,a1,a2,a3.mv hm (by omega)⟩
theorem BIz.app (h:BIz w0 b gl T vs Pp Pq e k n cs v F pd zs ic ib ia 1 vals w) (P:Program) (t ty:TypeId) (z:Value) (bytes:Nat) (hinfo:(P.info? e).map (λ i=>(i.zero,i.size,i.bytes))=some (some z,k,bytes)) (h1:P.underlying t=some (.slice e)) (h6:z.cells.size=k) (hk:0<k) (hbt:bytes<=10000)
  {u:Value} (hgs:vals ib=some u) (hzl:zs.length=k) (hzo:∀u∈zs,u.oneCell'=true) (hn:n<=1000000) (hFn:F.Nodup) (hFl:∀g∈F,g<w0.heap.size/\b<g) (hgl:gl∉F) (hs:Stays b Pq) (d1:ic≠ia) (d2:ib≠ia) :
  ∃v' w',(Builtin.append_ #[t,t] ty #[v,u]).run P w=.ok v' w'/\BIz w0 b gl T vs Pp Pq e k n cs v F pd zs ic ib ia 2 (updV vals ia v') w':=by
 obtain ⟨i,hi,hz0,hz1,hz2⟩:=info_parts hinfo;obtain ⟨ys,ds,F2,c1,c2,c3,c4,c5,c6,c7,_⟩:=h.p1 (n_ _);obtain ⟨gs,rfl,c9,c10⟩:=h.bl u hgs;obtain ⟨v',w',F',hr,a1,a2,a3,a4⟩:=run_append_dv t ty e i z k bytes h1 hi hz0 hz1 hz2 h6 hk (h.row (n_ _)) hFn c10 (DvsAt.vs w zs hzo) hzl List.nodup_nil (λ a _ hb=>by cases hb) hn hbt
 have hdis:∀j,j<w0.heap.size∨w.heap.size<=j->j∉F2:=λ j hj hj'=>by
  have:=c3.lt j hj';have:=c6 j hj';omega
 refine ⟨v',w',hr,h.ch.trans (a4.mono (λ _ _ h=>.inr h)),λ e=>absurd e (by omega),λ e=>absurd e (by omega),h.cell.ch a4 hgl,λ u' hu=>?_,λ _=>⟨ys,ds,F2,by rw [updV_ne vals _ d1];exact c1,c2,c3.ch a4 (λ j hj hj'=>hdis j (.inl (hFl j hj').1) hj),c4,c5,c6,hs _ _ _ c7 a4 (λ k hk=>(hFl k hk).2),λ _=>⟨v',F',updV_same _ _ _,a1,a2,λ g hg=>?_,λ g hg=>?_⟩⟩⟩
 ·rw [updV_ne vals _ d2] at hu;obtain ⟨gs',e1,e2,e3⟩:=h.bl u' hu;exact ⟨gs',e1,e2,e3.ch a4 (λ hh=>by have:=(hFl _ hh).1;omega)⟩
 ·rcases a3 g hg with h'|h'|h'
  ·exact .inl h'
  ·cases h'
  ·exact .inr (Nat.le_trans h.ch.size h')
 ·rcases a3 g hg with h'|h'|h'
  ·exact hdis g (.inl (hFl g h').1)
  ·cases h'
  ·exact hdis g (.inr h')
theorem BIz.fin (h:BIz w0 b gl T vs Pp Pq e k n cs v F pd zs ic ib ia 2 vals w) (hs:Stays b Pq) {v':Value} (hv:vals ia=some v') {il:Nat} (hil:vals il=some (.int .i64 (n:Int))) (jl:Nat) (hbg:b<gl) (hgl:gl∉F) (hgw:gl<w0.heap.size) :
  BFz w0 b gl T vs jl Pq e k n cs F pd zs ic ia il vals (w.setCell ⟨gl,jl,none⟩ v'):=by
 obtain ⟨ys,ds,F2,c1,c2,c3,c4,c5,c6,c7,c8⟩:=h.p1 (by omega);obtain ⟨v2,F',a1,a2,a3,a4,a5⟩:=c8 (n_ _)
 obtain rfl:v'=v2:=by rw [hv] at a1;injection a1
 have hm:Mv gl w (w.setCell ⟨gl,jl,none⟩ v'):=(Mv.refl gl w).set jl v';refine ⟨ys,ds,F2,v',F',c1,hv,hil,h.cell.set jl v',c2,c3.ch (Ch.of_mv hm) (λ g hg e=>?_),c4,c5,c6,hs _ _ _ c7 (Ch.of_mv hm) (λ k e=>by have e':k=gl:=e;omega),a2.ch (Ch.of_mv hm) (λ g hg e=>?_),a3,a4,a5,(h.ch.mono (λ k _ hk=>?_)).trans ((Ch.of_mv hm).mono (λ k _ hk=>.inr (.inl hk)))⟩
 ·have e':g=gl:=e;subst e';have:=c6 g hg;omega
 ·have e':g=gl:=e;subst e';rcases a4 g hg with h'|h'
  ·exact hgl h'
  ·omega
 ·rcases hk with hk|hk
  ·exact .inl hk
  ·exact .inr (.inr hk)
theorem BFz.put {jl il:Nat} (h:BFz w0 b gl T vs jl Pq e k n cs F pd zs ic ia il vals w) (hs:Stays b Pq) (hzl:zs.length=k) (hFl:∀g∈F,g<w0.heap.size/\b<g) (hgl:gl∉F) (hgw:gl<w0.heap.size) (hbw:b<w0.heap.size) :
  ∃(ys:List Value) (g c:Nat) (cur:List Value),vals ic=some (.agg ys.toArray)/\ys.length=k/\(∀u∈ys,u.oneCell'=true)/\vals ia=some (.slice (some ⟨g,0,none⟩) (n+1) c)/\vals il=some (.int .i64 (n:Int))/\CB w g e cur/\n*k+k<=cur.length/\BFin w0 b gl T vs jl Pq e k n cs F pd (sets w g (n*k) ys):=by
 obtain ⟨ys,ds,F2,v',F',c1,c2,c3,c4,c5,c6,c7,c8,c9,c10,c11,c12,c13,c14,c15⟩:=h;obtain ⟨g,c,cur,rfl,d1,d2,d3,d4,d5,d6⟩:=c11.last (by rw [List.length_map];exact hzl) c12
 have hle:n*k+k<=cur.length:=by
  rw [d2,<-Nat.succ_mul];exact Nat.mul_le_mul_right k d3
 have hgg:b<g/\g≠gl/\(g∈F∨w0.heap.size<=g):=by
  rcases c13 g d5 with h'|h'
  ·exact ⟨(hFl g h').2,λ e=>hgl (by rw [<-e];exact h'),.inl h'⟩
  ·exact ⟨by omega,by omega,.inr h'⟩
 have hch:Ch (·=g) w (sets w g (n*k) ys):=Ch.many (S:=(·=g)) (.inl rfl) ys (n*k) (Ch.refl _ w);obtain ⟨F3,e1,e2,e3⟩:=d6 _ ds ys F2 hch (CB.many ys (n*k) d1 (by omega)) c6 c7 c8 c14;refine ⟨ys,g,c,cur,c1,c7,c6.ones,c2,c3,d1,hle,ds,_,F3,c4.ch hch (λ e=>hgg.2.1 e.symm),c5,e1,e2,λ j hj=>?_,hs _ _ _ c10 hch (λ k e=>by rw [show k=g from e];exact hgg.1),c15.trans2 hch (λ j hj e=>?_)⟩
 ·rcases e3 j hj with h'|h'
  ·exact c13 j h'
  ·exact .inr (c9 j h')
 ·rw [show j=g from e] at hj ⊢;rcases hgg.2.2 with h'|h'
  ·exact .inr (.inr h')
  ·omega
end
def kidWs:List (List UInt8):=[wState,wParallel,wHistory,wDeep]
def NodeC (b:Nat) (K:Kx) (D:Int) (d:Nat):Prop:=∀(w:World) (V:Int) (s:Ss),PS w b K V D (.ok () s)->bgn kidWs s=true ->
 Calls Tryz.prog 121 #[.pointer (some ⟨b,0,none⟩)] w λ e w'=>∃(x:SyNode) (ys:List Value),e=.returned (.agg ys.toArray)/\Rep w' w.heap.size (dvNode true x) ys/\ys.length=9/\(nodeR d s).is x/\PS w' b K V D (nodeR d s).void/\Mv b w w'
def kdF (b gn jn:Nat) (v:Value) (i:Nat) (_vals:Nat->Option Value) (u:Value):Prop:=match i with
 |0=>u=.pointer (some ⟨gn,jn,none⟩)
 |1=>u=.pointer (some ⟨gn,jn,none⟩)
 |2=>u=.pointer (some ⟨gn,jn,none⟩)
 |3=>u=.pointer (some ⟨gn,jn+7,none⟩)
 |4=>u=v
 |5=>u=.pointer (some ⟨b,0,none⟩)
 |6=>∃ys:List Value,u=.agg ys.toArray/\ys.length=9
 |7=>∃gs:Nat,u=.slice (some ⟨gs,0,none⟩) 1 1
 |9=>u=.pointer (some ⟨gn,jn,none⟩)
 |10=>u=.pointer (some ⟨gn,jn+7,none⟩)
 |_=>True
def kzF (b gn jn n:Nat) (v:Value) (i:Nat) (_vals:Nat->Option Value) (u:Value):Prop:=match i with
 |0=>u=.pointer (some ⟨gn,jn,none⟩)
 |1=>u=.pointer (some ⟨gn,jn,none⟩)
 |2=>u=.pointer (some ⟨gn,jn+7,none⟩)
 |3=>u=v
 |4=>u=.pointer (some ⟨b,0,none⟩)
 |5=>∃ys:List Value,u=.agg ys.toArray/\ys.length=9
 |6=>u=.int .i64 (n:Int)
 |9=>u=.pointer (some ⟨gn,jn,none⟩)
 |10=>u=.pointer (some ⟨gn,jn+7,none⟩)
 |_=>True
theorem kid_out {nd:Ss->Rs SyNode} {ki:List SyNode} {s:Ss} {y:SyNode} (hk:nodeK s.ts≠0) (his:(nd s).is y):kidS nd ki s=(nd s).void.go λ s'=>.ok (ki++[y],true) s':=by
 unfold kidS;rw [if_neg hk,Rs.seq his]
structure NSK (W:World) (gu gn jn gs base:Nat) (T:TypeId) (pre:List Value) (kc nmv dfv pv:Value) (x:SyB) (ki:List SyNode):Prop where
 ex:∃v1 v2 v3 v4 F1 F2 F3 F4,CB W gn T (pre++ndC kc nmv (txV x.initial) dfv v1 v2 v3 v4 pv)/\Q4 W base (dvActs true x.enter) (dvActs true x.leave) (dvMoves true x.moves) (dvKids true ki) v1 v2 v3 v4 F1 F2 F3 F4/\gu∉F4
 sn:CB W gs 169 [.bool x.hi,.bool x.he,.bool x.hl]
theorem NSK.ch {S:Nat->Prop} {W W':World} {gu gn jn gs base:Nat} {T:TypeId} {pre:List Value} {kc nmv dfv pv:Value} {x:SyB} {ki:List SyNode} (h:NSK W gu gn jn gs base T pre kc nmv dfv pv x ki) (hc:Ch S W W') (hn:¬S gn) (hg:¬S gs) (hs:∀g,base<=g->g<W.heap.size->¬S g):NSK W' gu gn jn gs base T pre kc nmv dfv pv x ki:=by
 obtain ⟨v1,v2,v3,v4,F1,F2,F3,F4,h1,h2,h3⟩:=h.ex;exact ⟨⟨v1,v2,v3,v4,F1,F2,F3,F4,h1.ch hc hn,h2.ch hc hs,h3⟩,h.sn.ch hc hg⟩
theorem NSK.below {W W':World} {gu gn jn gs base:Nat} {T:TypeId} {pre:List Value} {kc nmv dfv pv:Value} {x:SyB} {ki:List SyNode} (h:NSK W gu gn jn gs base T pre kc nmv dfv pv x ki) (hb:Below W.heap.size W W'):NSK W' gu gn jn gs base T pre kc nmv dfv pv x ki:=h.ch (Ch.of_below (S:=λ _=>False) hb) (λ h=>h) (λ h=>h) (λ _ _ _ h=>h)
theorem NS.k {W:World} {gn jn gs base:Nat} {T:TypeId} {pre:List Value} {kc nmv dfv pv:Value} {x:SyB} {ki:List SyNode} (h:NS W gn jn gs base T pre kc nmv dfv pv x ki):NSK W W.heap.size gn jn gs base T pre kc nmv dfv pv x ki:=by
 obtain ⟨v1,v2,v3,v4,F1,F2,F3,F4,h1,h2⟩:=h.ex;exact ⟨⟨v1,v2,v3,v4,F1,F2,F3,F4,h1,h2,λ hg=>Nat.lt_irrefl _ (h2.a4.lt _ hg)⟩,h.sn⟩
def KdEnd (w:World) (b:Nat) (K:Kx) (V D:Int) (d:Nat) (s:Ss) (gu gn jn gs base:Nat) (T:TypeId) (pre:List Value) (kc nmv dfv pv:Value) (x:SyB) (ki:List SyNode) (e:Ending) (w':World):Prop :=
 e=.returned (.tuple #[])/\∃y,(∀z bb s',kidS (nodeR d) ki s=.ok (z,bb) s'->z=y)/\PS w' b K V D (kidS (nodeR d) ki s).void/\NSK w' gu gn jn gs base T pre kc nmv dfv pv x y/\Ch (λ k=>k=b∨k=gn∨base<=k/\k≠gu) w w'/\y.length<=ki.length+1
theorem skid_any (w:World) (b:Nat) (K:Kx) (V D:Int) (d:Nat) (s:Ss) (gu gn jn gs gx gp base:Nat) (T:TypeId) (pre:List Value) (kc nmv dfv pv:Value) (x:SyB) (ki:List SyNode) (h:PS w b K V D (.ok () s)) (hN:NSK w gu gn jn gs base T pre kc nmv dfv pv x ki) (hpre:pre.length=jn)
  (hgx:CB w gx 141 [.pointer (some ⟨gn,jn,none⟩)]) (hgp:CB w gp 134 [.pointer (some ⟨b,0,none⟩)])
  (hkb:bgn kidWs s=true) (hnd:NodeC b K D d) (hbn:b<gn) (hbs:b<gs) (hns:gn≠gs) (hnB:gn<base) (hsB:gs<base) (hxB:gx<base) (hpB:gp<base) (hbx:b<gx) (hbp:b<gp) (hBw:base<=w.heap.size) (huw:gu<w.heap.size) (hmv:ki.length<=1000000) :
  Calls Tryz.prog 120 #[.pointer (some ⟨gx,0,none⟩),.pointer (some ⟨gp,0,none⟩)] w (KdEnd w b K V D d s gu gn jn gs base T pre kc nmv dfv pv x ki):=by
 have hk:nodeK s.ts≠0:=by
  obtain ⟨t,l,hs,hlt,_,_,_⟩:=h.head rfl;exact (word_bgn (l:=[wState,wParallel,wHistory,wDeep]) (by decide) hs hlt 1 (by decide)).1 hkb
 go_enter Tryz.func120,Tryz.ntmps120;go_upto_region 0 with fail
 go_cut [3] from 2 to 3 (λ s3 wr=>(s3=.bool true∨s3=.bool false)/\Hid (Below w.heap.size w wr))
 case first =>
  go_region
  all_goals
   go_wp2_with fail
   go_meet
   refine ⟨?_,h_ ((b_ _ w).alloc (n_ _) _).drew⟩;simp
 case rest =>
 obtain ⟨h3,HB⟩:=hcut
 obtain ⟨w1,hw1⟩:∃w1,w1=wc:=⟨_,rfl⟩
 subst hw1;have hb1:=HB.out;have hsz1:=hb1.size;replace h:=h.below hb1;replace hN:=hN.below hb1;replace hgx:=hgx.below hb1;replace hgp:=hgp.below hb1;obtain ⟨v1,v2,v3,v,F1,F2,F3,F,hcell,hq4,huF⟩:=hN.ex;have hsn:=hN.sn;have hs0:=stays_ps b K V D (.ok () s);have hs:=stays_ps b K V D (nodeR d s).void;have hp0:=h
 obtain ⟨cs,hcs⟩:∃cs,dvNodes true ki=cs:=⟨_,rfl⟩
 obtain ⟨n,hnn⟩:∃n,ki.length=n:=⟨_,rfl⟩
 have hE:∀y:SyNode,dvKids true (ki++[y])=.row 27 9 (n+1) (cs++dvNode true y):=λ y=>by unfold dvKids;rw [dvNodes_snoc,hcs,List.length_append,hnn];simp
 have hrow:DvAt w1 (.row 27 9 n cs) v F:=by rw [<-hcs,<-hnn];exact hq4.a4
 have hn:n<=1000000:=by omega
 have hFn:=hq4.n4;have hFB:=hq4.l4
 have hFl:∀g∈F,g<w1.heap.size/\b<g:=λ g hg=>⟨hrow.lt g hg,by have:=hFB g hg;omega⟩
 have hglw:=hcell.lt;have hbw:=h.blt;have hbg:=hbn
 have hbF:b∉F:=λ hb=>by have:=hFB b hb;omega
 have hglF:gn∉F:=λ hb=>by have:=hFB gn hb;omega
 have hgxF:¬(gx=b∨gx∈F):=λ hh=>hh.elim (λ e=>by omega) (λ hb=>by have:=hFB gx hb;omega);have hgpF:¬(gp=b∨gp∈F):=λ hh=>hh.elim (λ e=>by omega) (λ hb=>by have:=hFB gp hb;omega)
 have hvs:∃A c,v=.slice A n c:=by obtain ⟨A,c,e,_⟩:=hrow.slice;exact ⟨A,c,e⟩
 have hend:∀(W:World) (y:SyNode) (v':Value) (F':List Nat),CB W gn T (pre++(ndC kc nmv (txV x.initial) dfv v1 v2 v3 v pv).set 7 v')->(nodeR d s).is y->DvAt W (.row 27 9 (n+1) (cs++dvNode true y)) v' F'->F'.Nodup->(∀g∈F',g∈F∨w1.heap.size<=g)->PS W b K V D (nodeR d s).void->Ch (λ j=>j=b∨j=gn∨j∈F) w1 W->KdEnd w b K V D d s gu gn jn gs base T pre kc nmv dfv pv x ki (.returned (.tuple #[])) W:=λ W y v' F' a1 a2 a3 a4 a5 a6 a7=>by
  have hout:=kid_out (ki:=ki) hk a2
  have hd:∀k,k<w1.heap.size->(k=b∨k=gn∨k∈F)->base<=k->k∈F:=λ k _ h hb=>by
   rcases h with h|h|h
   ·omega
   ·omega
   ·exact h
  refine ⟨rfl,ki++[y],λ z bb s' e=>?_,?_,⟨⟨v1,v2,v3,v',F1,F2,F3,F',a1,?_,λ hg=>(a5 _ hg).elim huF (λ hh=>absurd hh (by omega))⟩,hsn.ch a7 ?_⟩,?_,by simp⟩
  ·rw [hout] at e;exact congrArg Prod.fst (go_ok_is _ _ _ _ e)
  ·rw [hout,go_ok_void];exact a6
  ·exact hq4.up4 a7 (λ g hg hlt h=>hd g hlt h hg) (by rw [hE];exact a3) a4 a5 (by omega)
  ·rintro (e|e|e)
   ·omega
   ·omega
   ·have:=hFB _ e;omega
  ·exact (Ch.of_below hb1).trans2 a7 (λ j hj hs=>by
    rcases hs with e|e|e
    ·exact .inl e
    ·exact .inr (.inl e)
    ·exact .inr (.inr ⟨hFB j e,λ e'=>huF (by rw [<-e'];exact e)⟩))
 clear hq4 hN HB hb1 hsn;obtain ⟨A0,c0,hvs⟩:=hvs;have HVS:=h_ hvs;clear hvs;rcases h3 with h3|h3
 ·subst h3;go_upto_region 1 with fail
  refine region_mix _ _ _ (by kernel_rfl) 11 rfl (by kernel_rfl) (by kernel_rfl) (λ i=>match i with|1=>[0]|2=>[1]|3=>[2]|5=>[4]|6=>[3]|8=>[3,7,5]|9=>[0]|10=>[9]|11=>[10,8]|_=>[]) (by kernel_rfl) (by kernel_rfl)
   (λ i=>match i with|5=>some 0|8=>some 1|11=>some 2|_=>none) (λ i=>i==7) 2 rfl (by kernel_rfl)
   (kzF b gn jn n v) ?_ (λ p vals W=>BIz w1 b gn T (pre++ndC kc nmv (txV x.initial) dfv v1 v2 v3 v pv) (λ W=>PS W b K V D (.ok () s)) (λ W=>PS W b K V D (nodeR d s).void) 27 9 n cs v F (λ ds=>∃y:SyNode,ds=dvNode true y/\(nodeR d s).is y) zNode 5 7 8 p vals W)
   (λ vals wr=>BFz w1 b gn T (pre++ndC kc nmv (txV x.initial) dfv v1 v2 v3 v pv) (jn+7) (λ W=>PS W b K V D (nodeR d s).void) 27 9 n cs F (λ ds=>∃y:SyNode,ds=dvNode true y/\(nodeR d s).is y) zNode 5 8 6 vals wr)
   (λ p vals vals' W hl hI=>hI.loc (hl _ (.inl rfl)) (hl _ (.inr rfl)) (hl _ (.inl rfl))) (BIz.zero hs0 hp0 hrow hcell) ?_ ?_ ?_ ?_ ?_
  ·intro j vals vals' u hext hF;exact hF
  ·intro i o hi hrk hal ho a vals w p hpN hI hbase hdep
   have hi':i=0∨i=1∨i=2∨i=3∨i=4∨i=5∨i=6∨i=7∨i=8∨i=9∨i=10:=by omega
   rcases hi' with rfl|rfl|rfl|rfl|rfl|rfl|rfl|rfl|rfl|rfl|rfl
   ·have hp:a.tmps[0]?.getD undef=Value.pointer (some ⟨gx,0,none⟩):=ev_get2 (hbase 0 (by kernel_rfl));have y0:=(hgx.ch hI.ch hgxF).c 0 rfl;simp only [t_,z_,j_] at ho;subst ho;unfold Oper.wp;go_simp;exact ⟨_,rfl,rfl,rfl⟩
   ·have h0:a.tmps[4]?.getD undef=Value.pointer (some ⟨gn,jn,none⟩):=ev_get2 (show a.eval (.tmp 4)=Value.pointer (some ⟨gn,jn,none⟩) from (hdep 0 (by simp)).1);simp only [t_,s_,z_,j_] at ho;subst ho;unfold Oper.wp;go_simp;exact ⟨_,rfl,rfl,rfl⟩
   ·have h1:a.tmps[5]?.getD undef=Value.pointer (some ⟨gn,jn,none⟩):=ev_get2 (show a.eval (.tmp 5)=Value.pointer (some ⟨gn,jn,none⟩) from (hdep 1 (by simp)).1);simp only [t_,s_,z_,j_] at ho;subst ho;unfold Oper.wp;go_simp;exact ⟨_,rfl,rfl,rfl⟩
   ·have h2:a.tmps[6]?.getD undef=Value.pointer (some ⟨gn,jn+7,none⟩):=ev_get2 (show a.eval (.tmp 6)=Value.pointer (some ⟨gn,jn+7,none⟩) from (hdep 2 (by simp)).1);have y0:=hI.cell.c (jn+7) (pre_get hpre rfl);simp only [t_,s_,z_,j_] at ho;subst ho;unfold Oper.wp;go_simp;exact ⟨_,rfl,rfl,rfl⟩
   ·have hp:a.tmps[1]?.getD undef=Value.pointer (some ⟨gp,0,none⟩):=ev_get2 (hbase 1 (by kernel_rfl));have y0:=(hgp.ch hI.ch hgpF).c 0 rfl;simp only [t_,s_,z_,j_] at ho;subst ho;unfold Oper.wp;go_simp;exact ⟨_,rfl,rfl,rfl⟩
   ·cases hrk
   ·have h3:a.tmps[7]?.getD undef=v:=ev_get2 (show a.eval (.tmp 7)=v from (hdep 3 (by simp)).1);rw [HVS.out] at h3;simp only [t_,s_,z_,j_] at ho;subst ho;unfold Oper.wp;go_simp;exact ⟨_,rfl,rfl,rfl⟩
   ·cases hal
   ·cases hrk
   ·have h0:a.tmps[4]?.getD undef=Value.pointer (some ⟨gn,jn,none⟩):=ev_get2 (show a.eval (.tmp 4)=Value.pointer (some ⟨gn,jn,none⟩) from (hdep 0 (by simp)).1);simp only [t_,s_,z_,j_] at ho;subst ho;unfold Oper.wp;go_simp;exact ⟨_,rfl,rfl,rfl⟩
   ·have h9:a.tmps[13]?.getD undef=Value.pointer (some ⟨gn,jn,none⟩):=ev_get2 (show a.eval (.tmp 13)=Value.pointer (some ⟨gn,jn,none⟩) from (hdep 9 (by simp)).1);simp only [t_,s_,z_,j_] at ho;subst ho;unfold Oper.wp;go_simp;exact ⟨_,rfl,rfl,rfl⟩
  ·intro i o hi hrk hal ho a vals w2 p hpN hI hv hcl
   have hi':i=0∨i=1∨i=2∨i=3∨i=4∨i=5∨i=6∨i=7∨i=8∨i=9∨i=10:=by omega
   rcases hi' with rfl|rfl|rfl|rfl|rfl|rfl|rfl|rfl|rfl|rfl|rfl
   ·cases hal
   ·cases hal
   ·cases hal
   ·cases hal
   ·cases hal
   ·cases hrk
   ·cases hal
   ·have hIb:=hI.build hs0 hs (by decide) (by decide);simp only [t_,s_,z_,j_] at ho;subst ho;unfold Oper.wp;go_simp;exact ⟨_,rfl,trivial,hIb⟩
   ·cases hrk
   ·cases hal
   ·cases hal
  ·intro i o r' hi hrk ho a vals w2 hI hbase hdep hv hcl
   have hi':i=0∨i=1∨i=2∨i=3∨i=4∨i=5∨i=6∨i=7∨i=8∨i=9∨i=10:=by omega
   rcases hi' with rfl|rfl|rfl|rfl|rfl|rfl|rfl|rfl|rfl|rfl|rfl
   ·cases hrk
   ·cases hrk
   ·cases hrk
   ·cases hrk
   ·cases hrk
   ·obtain rfl:r'=0:=by injection hrk with hrk;exact hrk.symm
    have h4:a.tmps[8]?.getD undef=Value.pointer (some ⟨b,0,none⟩):=ev_get2 (show a.eval (.tmp 8)=Value.pointer (some ⟨b,0,none⟩) from (hdep 4 (by simp)).1);have HC:=hnd w2 V s (hI.p0 rfl) hkb;simp only [t_,s_,z_,j_] at ho;subst ho;unfold Oper.wp;go_simp;refine HC.mono ?_;rintro e w' ⟨y,ys,rfl,hrp,hl,his,hp,hm⟩;exact ⟨_,rfl,⟨ys,rfl,hl⟩,hI.call ⟨y,rfl,his⟩ hrp hl hp hm (by omega) hbF hbw (by decide)⟩
   ·cases hrk
   ·cases hrk
   ·obtain rfl:r'=1:=by injection hrk with hrk;exact hrk.symm
    have h3:a.eval (.tmp 7)=v:=(hdep 3 (by simp)).1;have hv7:=(hdep 7 (by simp)).2
    obtain ⟨u7,hu7⟩:∃u,a.eval (.tmp 11)=u:=⟨_,rfl⟩
    replace hv7:vals 7=some u7:=by rw [<-hu7];exact hv7
    obtain ⟨v',w',hr,hI'⟩:=hI.app Tryz.prog 25 25 _ _ infoNode Tryz.underlying25 rfl (by decide) (by decide) hv7 rfl (by decide) hn hFn hFl hglF hs (by decide) (by decide);simp only [t_,s_,z_,j_] at ho;subst ho;unfold Oper.wp;simp only [execOp,resolve,invoke,builtin,Sem.run_bind,Sem.run_pure,Result.andThen_ok,List.map_toArray,List.map_cons,List.map_nil,h3,hu7,hr];exact ⟨_,rfl,trivial,hI'⟩
   ·cases hrk
   ·cases hrk
  ·intro o ho a vals w2 hI hbase hdep hall hF;have h10:a.tmps[14]?.getD undef=Value.pointer (some ⟨gn,jn+7,none⟩):=ev_get2 (show a.eval (.tmp 14)=Value.pointer (some ⟨gn,jn+7,none⟩) from (hdep 10 (by simp)).1);obtain ⟨v',hva⟩:=x_ (Option.isSome_iff_ne_none.2 (hall 8 (by omega)));obtain ⟨v6,hv6⟩:=x_ (Option.isSome_iff_ne_none.2 (hall 6 (by omega)));have hv6':v6=.int .i64 (n:Int):=hF 6 _ hv6;rw [hv6'] at hv6;have hv4:=(hdep 8 (by simp)).2;rw [hva] at hv4;have h8:a.tmps[12]?.getD undef=v':=ev_get2 (show a.eval (.tmp 12)=v' from (Option.some.inj hv4).symm);have y0:=hI.cell.c (jn+7) (pre_get hpre rfl);have f0:=hI.cell.fr (jn+7);obtain ⟨_,_,_,_,_,_,_,_,_,_,c8⟩:=hI.p1 (by omega);obtain ⟨_,_,c1,c3,_⟩:=c8 (n_ _);rw [hva] at c1;obtain rfl:=Option.some.inj c1;obtain ⟨A',c',hsl,_,_⟩:=c3.slice;subst hsl;have hfin:=hI.fin hs hva hv6 (jn+7) hbn hglF hglw;simp only [t_,s_,z_,j_] at ho;subst ho;unfold Oper.wp;go_simp;exact ⟨.tuple #[],rfl,λ vals' hv=>by obtain ⟨ys,ds,F2,v',F',c1,c2,c3,c4⟩:=hfin;exact ⟨ys,ds,F2,v',F',(hv 5 (by omega)).trans c1,(hv 8 (by omega)).trans c2,(hv 6 (by omega)).trans c3,c4⟩⟩
  ·intro vals W hF hall;obtain ⟨ys,g,c,cur,z1,z2,zo,z3,z4,z5,z6,z7⟩:=hF.put hs rfl hFl hglF hglw hbw;clear hF;obtain ⟨v0,h0⟩:=x_ (hall 0 (by omega));obtain ⟨v1,h1⟩:=x_ (hall 1 (by omega));obtain ⟨v2,h2⟩:=x_ (hall 2 (by omega));obtain ⟨v3,h3⟩:=x_ (hall 3 (by omega));obtain ⟨v4,h4⟩:=x_ (hall 4 (by omega));have h5:=z1;have h6:=z4;obtain ⟨v7,h7⟩:=x_ (hall 7 (by omega));have h8:=z3;obtain ⟨v9,h9⟩:=x_ (hall 9 (by omega));obtain ⟨v10,h10⟩:=x_ (hall 10 (by omega));obtain ⟨v11,h11⟩:=x_ (hall 11 (by omega));simp only [puts,put1,show List.range (11+1)=[0,1,2,3,4,5,6,7,8,9,10,11] from rfl,List.foldl_cons,List.foldl_nil,h0,h1,h2,h3,h4,h5,h6,h7,h8,h9,h10,h11,t_,s_,z_,Act.put,u_,v_,k_];clear h0 h1 h2 h3 h4 h5 h6 h7 h8 h9 h10 h11 hall;obtain ⟨y0,y1,y2,y3,y4,y5,y6,y7,y8,rfl⟩:=cells9 z2;clear z1 z3 z4;have st:∀y∈[y0,y1,y2,y3,y4,y5,y6,y7,y8],∀(w:World) (a:Addr),(store a y).run Tryz.prog w=stored Tryz.prog w a y .plain:=λ y hy w a=>run_store _ w a y .plain (zo y hy);have s0:=st y0 (by simp);have s1:=st y1 (by simp);have s2:=st y2 (by simp);have s3:=st y3 (by simp);have s4:=st y4 (by simp);have s5:=st y5 (by simp);have s6:=st y6 (by simp);have s7:=st y7 (by simp);have s8:=st y8 (by simp);clear st zo z2
   have hoff:∀i,i<9->∃u,W.cell? ⟨g,n*9+i,none⟩=some u:=λ i hi=>by
    have hlt:n*9+i<cur.length:=by omega
    exact ⟨_,z5.c (n*9+i) (List.getElem?_eq_getElem hlt)⟩
   obtain ⟨u0,x0⟩:=hoff 0 (by omega);obtain ⟨u1,x1⟩:=hoff 1 (by omega);obtain ⟨u2,x2⟩:=hoff 2 (by omega);obtain ⟨u3,x3⟩:=hoff 3 (by omega);obtain ⟨u4,x4⟩:=hoff 4 (by omega);obtain ⟨u5,x5⟩:=hoff 5 (by omega);obtain ⟨u6,x6⟩:=hoff 6 (by omega);obtain ⟨u7,x7⟩:=hoff 7 (by omega);obtain ⟨u8,x8⟩:=hoff 8 (by omega);have fz:=λ i=>z5.fr (n*9+i);have f0:=fz 0;have f1:=fz 1;have f2:=fz 2;have f3:=fz 3;have f4:=fz 4;have f5:=fz 5;have f6:=fz 6;have f7:=fz 7;have f8:=fz 8;clear fz hoff z5 z6;simp only [sets,Nat.add_assoc,Nat.reduceAdd] at z7;simp only [Nat.add_zero] at x0 f0;go_wp2_with fail;go_end0;obtain ⟨_,v',F',a1,⟨y,rfl,a2⟩,a3,a4,a5,a6,a7⟩:=z7;rw [pre_set hpre] at a1;exact hend _ y v' F' a1 a2 a3 a4 a5 a6 a7
 ·subst h3;go_upto_region 3 with fail
  refine region_mix _ _ _ (by kernel_rfl) 11 rfl (by kernel_rfl) (by kernel_rfl) (λ i=>match i with|2=>[1]|3=>[2]|4=>[3]|6=>[5]|7=>[6]|8=>[4,7]|9=>[0]|10=>[9]|11=>[10,8]|_=>[]) (by kernel_rfl) (by kernel_rfl)
   (λ i=>match i with|6=>some 0|7=>some 1|8=>some 2|11=>some 3|_=>none) (λ _=>false) 3 rfl (by kernel_rfl)
   (kdF b gn jn v) ?_ (λ p vals W=>BIv w1 b gn T (pre++ndC kc nmv (txV x.initial) dfv v1 v2 v3 v pv) (λ W=>PS W b K V D (.ok () s)) (λ W=>PS W b K V D (nodeR d s).void) 27 9 n cs v F (λ ds=>∃y:SyNode,ds=dvNode true y/\(nodeR d s).is y) (λ u ys=>u=.agg ys.toArray) 6 7 8 p vals W)
   (λ _ wr=>BFin w1 b gn T (pre++ndC kc nmv (txV x.initial) dfv v1 v2 v3 v pv) (jn+7) (λ W=>PS W b K V D (nodeR d s).void) 27 9 n cs F (λ ds=>∃y:SyNode,ds=dvNode true y/\(nodeR d s).is y) wr)
   (λ p vals vals' W hl hI=>hI.loc (hl _ (.inl rfl)) (hl _ (.inl rfl)) (hl _ (.inl rfl))) (BIv.zero hs0 hp0 hrow hcell) ?_ ?_ ?_ ?_ ?_
  ·intro j vals vals' u hext hF;exact hF
  ·intro i o hi hrk hal ho a vals w p hpN hI hbase hdep
   have hi':i=0∨i=1∨i=2∨i=3∨i=4∨i=5∨i=6∨i=7∨i=8∨i=9∨i=10:=by omega
   rcases hi' with rfl|rfl|rfl|rfl|rfl|rfl|rfl|rfl|rfl|rfl|rfl
   ·have hp:a.tmps[0]?.getD undef=Value.pointer (some ⟨gx,0,none⟩):=ev_get2 (hbase 0 (by kernel_rfl));have y0:=(hgx.ch hI.ch hgxF).c 0 rfl;simp only [t_,z_,j_] at ho;subst ho;unfold Oper.wp;go_simp;exact ⟨_,rfl,rfl,rfl⟩
   ·have hp:a.tmps[0]?.getD undef=Value.pointer (some ⟨gx,0,none⟩):=ev_get2 (hbase 0 (by kernel_rfl));have y0:=(hgx.ch hI.ch hgxF).c 0 rfl;simp only [t_,s_,z_,j_] at ho;subst ho;unfold Oper.wp;go_simp;exact ⟨_,rfl,rfl,rfl⟩
   ·have h1:a.tmps[17]?.getD undef=Value.pointer (some ⟨gn,jn,none⟩):=ev_get2 (show a.eval (.tmp 17)=Value.pointer (some ⟨gn,jn,none⟩) from (hdep 1 (by simp)).1);simp only [t_,s_,z_,j_] at ho;subst ho;unfold Oper.wp;go_simp;exact ⟨_,rfl,rfl,rfl⟩
   ·have h2:a.tmps[18]?.getD undef=Value.pointer (some ⟨gn,jn,none⟩):=ev_get2 (show a.eval (.tmp 18)=Value.pointer (some ⟨gn,jn,none⟩) from (hdep 2 (by simp)).1);simp only [t_,s_,z_,j_] at ho;subst ho;unfold Oper.wp;go_simp;exact ⟨_,rfl,rfl,rfl⟩
   ·have h3:a.tmps[19]?.getD undef=Value.pointer (some ⟨gn,jn+7,none⟩):=ev_get2 (show a.eval (.tmp 19)=Value.pointer (some ⟨gn,jn+7,none⟩) from (hdep 3 (by simp)).1);have y0:=hI.cell.c (jn+7) (pre_get hpre rfl);simp only [t_,s_,z_,j_] at ho;subst ho;unfold Oper.wp;go_simp;exact ⟨_,rfl,rfl,rfl⟩
   ·have hp:a.tmps[1]?.getD undef=Value.pointer (some ⟨gp,0,none⟩):=ev_get2 (hbase 1 (by kernel_rfl));have y0:=(hgp.ch hI.ch hgpF).c 0 rfl;simp only [t_,s_,z_,j_] at ho;subst ho;unfold Oper.wp;go_simp;exact ⟨_,rfl,rfl,rfl⟩
   ·cases hrk
   ·cases hrk
   ·cases hrk
   ·have h0:a.tmps[16]?.getD undef=Value.pointer (some ⟨gn,jn,none⟩):=ev_get2 (show a.eval (.tmp 16)=Value.pointer (some ⟨gn,jn,none⟩) from (hdep 0 (by simp)).1);simp only [t_,s_,z_,j_] at ho;subst ho;unfold Oper.wp;go_simp;exact ⟨_,rfl,rfl,rfl⟩
   ·have h9:a.tmps[25]?.getD undef=Value.pointer (some ⟨gn,jn,none⟩):=ev_get2 (show a.eval (.tmp 25)=Value.pointer (some ⟨gn,jn,none⟩) from (hdep 9 (by simp)).1);simp only [t_,s_,z_,j_] at ho;subst ho;unfold Oper.wp;go_simp;exact ⟨_,rfl,rfl,rfl⟩
  ·intro i o hi hrk hal;cases hal
  ·intro i o r' hi hrk ho a vals w2 hI hbase hdep hv hcl
   have hi':i=0∨i=1∨i=2∨i=3∨i=4∨i=5∨i=6∨i=7∨i=8∨i=9∨i=10:=by omega
   rcases hi' with rfl|rfl|rfl|rfl|rfl|rfl|rfl|rfl|rfl|rfl|rfl
   ·cases hrk
   ·cases hrk
   ·cases hrk
   ·cases hrk
   ·cases hrk
   ·cases hrk
   ·obtain rfl:r'=0:=by injection hrk with hrk;exact hrk.symm
    have h5:a.tmps[21]?.getD undef=Value.pointer (some ⟨b,0,none⟩):=ev_get2 (show a.eval (.tmp 21)=Value.pointer (some ⟨b,0,none⟩) from (hdep 5 (by simp)).1);have HC:=hnd w2 V s (hI.p0 rfl) hkb;simp only [t_,s_,z_,j_] at ho;subst ho;unfold Oper.wp;go_simp;refine HC.mono ?_;rintro e w' ⟨y,ys,rfl,hrp,hl,his,hp,hm⟩;exact ⟨_,rfl,⟨ys,rfl,hl⟩,hI.call (u:=.agg ys.toArray) rfl ⟨y,rfl,his⟩ hrp hl hp hm (by omega) hbF⟩
   ·obtain rfl:r'=1:=by injection hrk with hrk;exact hrk.symm
    obtain ⟨u,ys,c1,rfl,hl,hIb⟩:=hI.build hs (by decide);have h6:=(hdep 6 (by simp)).2;rw [c1] at h6;replace h6:a.tmps[22]?.getD undef=_:=ev_get2 (Option.some.inj h6).symm;obtain ⟨y0,y1,y2,y3,y4,y5,y6,y7,y8,rfl⟩:=cells9 hl;simp only [t_,s_,z_,j_] at ho;subst ho;unfold Oper.wp;go_simp;exact ⟨_,rfl,⟨_,rfl⟩,hIb⟩
   ·obtain rfl:r'=2:=by injection hrk with hrk;exact hrk.symm
    have h4:a.eval (.tmp 20)=v:=(hdep 4 (by simp)).1;obtain ⟨gs,h7⟩:=(hdep 7 (by simp)).1
    have hv3:vals 7=some (.slice (some ⟨gs,0,none⟩) 1 1):=by rw [(hdep 7 (by simp)).2];exact congrArg some h7
    replace h7:a.eval (.tmp 23)=_:=h7;obtain ⟨v',w',hr,hI'⟩:=hI.app Tryz.prog 25 25 _ _ infoNode Tryz.underlying25 rfl (by decide) (by decide) hv3 hn hFn hFl hglF hs;simp only [t_,s_,z_,j_] at ho;subst ho;unfold Oper.wp;simp only [execOp,resolve,invoke,builtin,Sem.run_bind,Sem.run_pure,Result.andThen_ok,List.map_toArray,List.map_cons,List.map_nil,h4,h7,hr];exact ⟨_,rfl,trivial,hI'⟩
   ·cases hrk
   ·cases hrk
  ·intro o ho a vals w2 hI hbase hdep hall hF;have h10:a.tmps[26]?.getD undef=Value.pointer (some ⟨gn,jn+7,none⟩):=ev_get2 (show a.eval (.tmp 26)=Value.pointer (some ⟨gn,jn+7,none⟩) from (hdep 10 (by simp)).1);obtain ⟨v',hva⟩:=x_ (Option.isSome_iff_ne_none.2 (hall 8 (by omega)));have hv4:=(hdep 8 (by simp)).2;rw [hva] at hv4;have h8:a.tmps[24]?.getD undef=v':=ev_get2 (show a.eval (.tmp 24)=v' from (Option.some.inj hv4).symm);have y0:=hI.cell.c (jn+7) (pre_get hpre rfl);have f0:=hI.cell.fr (jn+7);obtain ⟨_,_,_,c1,_,c3,_,_,_⟩:=hI.p3 (n_ _);rw [hva] at c1;obtain rfl:=Option.some.inj c1;obtain ⟨A',c',hsl,_,_⟩:=c3.slice;subst hsl;have hfin:=hI.fin hs hva (jn+7) hbg hglF hglw;simp only [t_,s_,z_,j_] at ho;subst ho;unfold Oper.wp;go_simp;exact ⟨.tuple #[],rfl,λ _ _=>hfin⟩
  ·intro vals W hF hall;obtain ⟨v0,h0⟩:=x_ (hall 0 (by omega));obtain ⟨v1,h1⟩:=x_ (hall 1 (by omega));obtain ⟨v2,h2⟩:=x_ (hall 2 (by omega));obtain ⟨v3,h3⟩:=x_ (hall 3 (by omega));obtain ⟨v4,h4⟩:=x_ (hall 4 (by omega));obtain ⟨v5,h5⟩:=x_ (hall 5 (by omega));obtain ⟨v6,h6⟩:=x_ (hall 6 (by omega));obtain ⟨v7,h7⟩:=x_ (hall 7 (by omega));obtain ⟨v8,h8⟩:=x_ (hall 8 (by omega));obtain ⟨v9,h9⟩:=x_ (hall 9 (by omega));obtain ⟨v10,h10⟩:=x_ (hall 10 (by omega));obtain ⟨v11,h11⟩:=x_ (hall 11 (by omega));simp only [puts,put1,show List.range (11+1)=[0,1,2,3,4,5,6,7,8,9,10,11] from rfl,List.foldl_cons,List.foldl_nil,h0,h1,h2,h3,h4,h5,h6,h7,h8,h9,h10,h11,t_,s_,z_,Act.put,u_,v_,k_];clear h0 h1 h2 h3 h4 h5 h6 h7 h8 h9 h10 h11 hall;go_wp2_with fail;go_end0;obtain ⟨_,v',F',a1,⟨y,rfl,a2⟩,a3,a4,a5,a6,a7⟩:=hF;rw [pre_set hpre] at a1;exact hend _ y v' F' a1 a2 a3 a4 a5 a6 a7
def clWs:List (List UInt8):=[wInitial,wEnter,wLeave,wOn,wAlways,wAfter]
theorem clWs_kw:∀u∈clWs,isKw u=true:=by decide
theorem kidWs_kw:∀u∈kidWs,isKw u=true:=by decide
theorem bgn_no {us:List (List UInt8)} (hk:∀u∈us,isKw u=true) {s:Ss} {t:Tk} {l:List Tk} (hs:s.ts=t::l) (ht:LexT t) (h:bgn us s=false):∀u∈us,¬isAt 2 u s.ts=true:=λ u hu e=>by
 have h1:isAt 2 u s.ts=decide (t.text=u):=by rw [hs];exact tells_kw (hk u hu) t ht
 rw [h1,decide_eq_true_eq] at e;unfold bgn textAt at h;rw [hs] at h
 have h2:us.contains t.text=true:=by rw [List.contains_iff_mem,e];exact hu
 rw [show us.contains t.text=false from h] at h2;cases h2
theorem clauseS_stop (x:SyB) (s:Ss) (t:Tk) (l:List Tk) (hs:s.ts=t::l) (ht:LexT t) (h:bgn clWs s=false):clauseS x s=.ok (x,false) s:=by
 have n:=bgn_no clWs_kw hs ht h
 have hm:moveK s.ts=0:=by
  unfold moveK;simp only [wordAt];rw [if_neg (n wOn (by decide)),if_neg (n wAlways (by decide)),if_neg (n wAfter (by decide))]
 unfold clauseS;rw [if_neg (n wInitial (by decide)),if_neg (n wEnter (by decide)),if_neg (n wLeave (by decide))];unfold movS;rw [if_pos hm]
theorem wrong_ne {α:Type} {ts:List Tk} {x:α} {s:Ss}:(wrongR ts:Rs α)≠.ok x s:=by
 cases ts with
 |nil=>intro h;cases h
 |cons t r=>rw [wrongR_cons];split <;> (intro h;cases h)
theorem clauseS_goon (x:SyB) (s:Ss) (y:SyB) (s':Ss) (t:Tk) (l:List Tk) (hs:s.ts=t::l) (ht:LexT t) (h:bgn clWs s=true):clauseS x s≠.ok (y,false) s':=λ e=>by
 have hw:=(word_bgn clWs_kw hs ht 1 (by decide)).1 h;unfold clauseS at e
 by_cases h1:isAt 2 wInitial s.ts=true
 ·rw [if_pos h1] at e;unfold initS at e
  split at e
  ·exact wrong_ne e
  ·obtain ⟨_,_,_,e1⟩:=Rs.some e;obtain ⟨_,_,_,e2⟩:=Rs.some e1;exact absurd (congrArg Prod.snd (Rs.ok.inj e2).1) (by simp)
 ·rw [if_neg h1] at e
  by_cases h2:isAt 2 wEnter s.ts=true
  ·rw [if_pos h2] at e;unfold enterS at e
   split at e
   ·exact wrong_ne e
   ·obtain ⟨_,_,_,e1⟩:=Rs.some e;exact absurd (congrArg Prod.snd (Rs.ok.inj e1).1) (by simp)
  ·rw [if_neg h2] at e
   by_cases h3:isAt 2 wLeave s.ts=true
   ·rw [if_pos h3] at e;unfold leaveS at e
    split at e
    ·exact wrong_ne e
    ·obtain ⟨_,_,_,e1⟩:=Rs.some e;exact absurd (congrArg Prod.snd (Rs.ok.inj e1).1) (by simp)
   ·rw [if_neg h3] at e;unfold movS at e
    split at e
    ·rename_i hm;unfold moveK at hm;unfold clWs at hw;simp only [wordAt] at hm hw;rw [if_neg h1,if_neg h2,if_neg h3] at hw
     by_cases c4:isAt 2 wOn s.ts=true
     ·rw [if_pos c4] at hm;cases hm
     ·rw [if_neg c4] at hm hw
      by_cases c5:isAt 2 wAlways s.ts=true
      ·rw [if_pos c5] at hm;cases hm
      ·rw [if_neg c5] at hm hw
       by_cases c6:isAt 2 wAfter s.ts=true
       ·rw [if_pos c6] at hm;cases hm
       ·rw [if_neg c6] at hw;exact hw rfl
    ·obtain ⟨_,_,_,e1⟩:=Rs.some e;exact absurd (congrArg Prod.snd (Rs.ok.inj e1).1) (by simp)
theorem kidS_stop (nd:Ss->Rs SyNode) (x:List SyNode) (s:Ss) (t:Tk) (l:List Tk) (hs:s.ts=t::l) (ht:LexT t) (h:bgn kidWs s=false):kidS nd x s=.ok (x,false) s:=by
 have hk:nodeK s.ts=0:=Classical.byContradiction λ hh=>by
  have:=(word_bgn kidWs_kw hs ht 1 (by decide)).2 hh;rw [h] at this;cases this
 unfold kidS;rw [if_pos hk]
theorem kidS_goon (nd:Ss->Rs SyNode) (x:List SyNode) (s:Ss) (y:List SyNode) (s':Ss) (t:Tk) (l:List Tk) (hs:s.ts=t::l) (ht:LexT t) (h:bgn kidWs s=true):kidS nd x s≠.ok (y,false) s':=λ e=>by
 have hk:nodeK s.ts≠0:=(word_bgn kidWs_kw hs ht 1 (by decide)).1 h;unfold kidS at e;rw [if_neg hk] at e;obtain ⟨_,_,_,e2⟩:=Rs.some e;exact absurd (congrArg Prod.snd (Rs.ok.inj e2).1) (by simp)
theorem step_left {σ:Type} {stp:σ->Ss->Rs (σ×Bool)} (hst:∀x s,Steps s (stp x s)) {x:σ} {s s':Ss} (hgo:∀y s',stp x s≠.ok (y,false) s') (e:(stp x s).void=.ok () s'):s'.ts.length+1<=s.ts.length:=by
 cases e1:stp x s with
 |out=>rw [e1] at e;cases e
 |bad c p=>rw [e1] at e;cases e
 |ok z s1 =>
  rw [e1] at e;have e2:s1=s':=(Rs.ok.inj e).2;subst e2;obtain ⟨z,bb⟩:=z
  cases bb with
  |false=>exact absurd e1 (hgo z s1)
  |true =>
   have:=hst x s z true s1 e1;simpa using this
theorem sbody1_any (w:World) (b:Nat) (K:Kx) (V D:Int) (s:Ss) (gn jn gs gx gp base:Nat) (T:TypeId) (pre:List Value) (kc nmv dfv pv:Value) (x:SyB) (ki:List SyNode) (h:PS w b K V D (.ok () s)) (hN:NS w gn jn gs base T pre kc nmv dfv pv x ki) (hpre:pre.length=jn)
  (hgx:CB w gx 141 [.pointer (some ⟨gn,jn,none⟩)]) (hgp:CB w gp 134 [.pointer (some ⟨b,0,none⟩)])
  (hw:bgn clWs s=true) (hbn:b<gn) (hbs:b<gs) (hns:gn≠gs) (hnB:gn<base) (hsB:gs<base) (hBw:base<=w.heap.size) (hmv:x.moves.length<=1000000) :
  Calls Tryz.prog 118 #[.pointer (some ⟨gp,0,none⟩),.pointer (some ⟨gx,0,none⟩),.pointer (some ⟨gs,0,none⟩)] w (ClEnd w b K V D s gn jn gs base T pre kc nmv dfv pv x ki):=by
 have HC:=h_ (sclause_any w b K V D s gn jn gs base T pre kc nmv dfv pv x ki h hN hpre hw hbn hbs hns hnB hsB hBw hmv);have y0:=hgp.c 0 rfl;have y1:=hgx.c 0 rfl;clear h hN hgx hgp;go_enter Tryz.func118,Tryz.ntmps118;go_wp2_with fail;refine HC.out.mono ?_;rintro e w1 ⟨rfl,hh⟩;have HH:=h_ hh;clear hh HC y0 y1;go_wp2_with fail;go_end0;exact ⟨rfl,HH.out⟩
structure B1 (b:Nat) (K:Kx) (V D:Int) (gn jn gs gx gp gu base:Nat) (T:TypeId) (pre:List Value) (kc nmv dfv pv:Value) (Wb:World) (x:SyB) (m:Rs Unit) (W:World):Prop where
 ps:PS W b K V D m
 ns:NS W gn jn gs base T pre kc nmv dfv pv x []
 tx:CB W gu 9 (clWs.map txV)
 gp:CB W gp 134 [.pointer (some ⟨b,0,none⟩)]
 gx:CB W gx 141 [.pointer (some ⟨gn,jn,none⟩)]
 ch:Ch (λ k=>k=b∨k=gn∨k=gs∨base<=k) Wb W
 len:∀s,m=.ok () s->x.moves.length+s.ts.length<=100000
 sz:base<=W.heap.size
theorem B1.below {b:Nat} {K:Kx} {V D:Int} {gn jn gs gx gp gu base:Nat} {T:TypeId} {pre:List Value} {kc nmv dfv pv:Value} {Wb:World} {x:SyB} {m:Rs Unit} {W W':World} (h:B1 b K V D gn jn gs gx gp gu base T pre kc nmv dfv pv Wb x m W) (hb:Below W.heap.size W W'):B1 b K V D gn jn gs gx gp gu base T pre kc nmv dfv pv Wb x m W' :=
 ⟨h.ps.below hb,h.ns.below hb,h.tx.below hb,h.gp.below hb,h.gx.below hb,h.ch.trans (Ch.of_below hb),h.len,Nat.le_trans h.sz hb.size⟩
theorem body_clauses (w:World) (b:Nat) (K:Kx) (V D:Int) (m:Rs Unit) (gn jn gs gx gp gu base:Nat) (T:TypeId) (pre:List Value) (kc nmv dfv pv:Value) (Wb:World) (x:SyB) (h:B1 b K V D gn jn gs gx gp gu base T pre kc nmv dfv pv Wb x m w) (hpre:pre.length=jn)
  (hbn:b<gn) (hbs:b<gs) (hns:gn≠gs) (hnB:gn<base) (hsB:gs<base) (hxB:gx<base) (hpB:gp<base) (huB:gu<base) (hnx:gx≠b/\gx≠gn/\gx≠gs) (hnp:gp≠b/\gp≠gn/\gp≠gs) (hnu:gu≠b/\gu≠gn/\gu≠gs) :
  Calls Tryz.prog 77 #[.pointer (some ⟨b,0,none⟩),.func (.func 118) #[] #[.pointer (some ⟨gp,0,none⟩),.pointer (some ⟨gx,0,none⟩),.pointer (some ⟨gs,0,none⟩)],.slice (some ⟨gu,0,none⟩) clWs.length clWs.length] w λ e w'=>e=.returned (.tuple #[])/\∃y,(m.go (It clauseS x)).is y/\B1 b K V D gn jn gs gx gp gu base T pre kc nmv dfv pv Wb y (m.go (It clauseS x)).void w':=by
 refine each_it b K D gu clWs _ _ (λ _ _=>by kernel_rfl) clauseS clauseS_goes (B1 b K V D gn jn gs gx gp gu base T pre kc nmv dfv pv Wb) (λ x m w hi=>⟨V,hi.ps⟩) (λ x m w hi=>hi.tx) (λ x m w w' hi hb=>hi.below hb) clauseS_stop clauseS_goon ?_ x m w h (by decide);intro x s W hi hbg;obtain ⟨t,l,hs,hl,_⟩:=hi.ps.head rfl;refine (sbody1_any W b K V D s gn jn gs gx gp base T pre kc nmv dfv pv x [] hi.ps hi.ns hpre hi.gx hi.gp hbg hbn hbs hns hnB hsB hi.sz (by have:=hi.len s rfl;omega)).mono ?_;rintro e w' ⟨rfl,y,h1,h2,h3,h4,h5⟩;refine ⟨rfl,y,h1,h2,h3,hi.tx.ch h4 (by omega),hi.gp.ch h4 (by omega),hi.gx.ch h4 (by omega),hi.ch.trans h4,λ s' e=>?_,Nat.le_trans hi.sz h4.size⟩;have:=step_left clauseS_steps (λ y s'=>clauseS_goon x s y s' t l hs hl hbg) e;have:=hi.len s rfl;omega
structure B2 (b:Nat) (K:Kx) (V D:Int) (gn jn gs gx gp gu base:Nat) (T:TypeId) (pre:List Value) (kc nmv dfv pv:Value) (x:SyB) (Wb:World) (ki:List SyNode) (m:Rs Unit) (W:World):Prop where
 ps:PS W b K V D m
 ns:NSK W gu gn jn gs base T pre kc nmv dfv pv x ki
 tx:CB W gu 9 (kidWs.map txV)
 gp:CB W gp 134 [.pointer (some ⟨b,0,none⟩)]
 gx:CB W gx 141 [.pointer (some ⟨gn,jn,none⟩)]
 ch:Ch (λ k=>k=b∨k=gn∨base<=k/\k≠gu) Wb W
 len:∀s,m=.ok () s->ki.length+s.ts.length<=100000
 sz:base<=W.heap.size
theorem B2.below {b:Nat} {K:Kx} {V D:Int} {gn jn gs gx gp gu base:Nat} {T:TypeId} {pre:List Value} {kc nmv dfv pv:Value} {x:SyB} {Wb:World} {ki:List SyNode} {m:Rs Unit} {W W':World} (h:B2 b K V D gn jn gs gx gp gu base T pre kc nmv dfv pv x Wb ki m W) (hb:Below W.heap.size W W'):B2 b K V D gn jn gs gx gp gu base T pre kc nmv dfv pv x Wb ki m W' :=
 ⟨h.ps.below hb,h.ns.below hb,h.tx.below hb,h.gp.below hb,h.gx.below hb,h.ch.trans (Ch.of_below hb),h.len,Nat.le_trans h.sz hb.size⟩
theorem body_kids (w:World) (b:Nat) (K:Kx) (V D:Int) (d:Nat) (m:Rs Unit) (gn jn gs gx gp gu base:Nat) (T:TypeId) (pre:List Value) (kc nmv dfv pv:Value) (x:SyB) (Wb:World) (ki:List SyNode) (h:B2 b K V D gn jn gs gx gp gu base T pre kc nmv dfv pv x Wb ki m w) (hpre:pre.length=jn) (hnd:(∃s,m=.ok () s)->NodeC b K D d)
  (hbn:b<gn) (hbs:b<gs) (hns:gn≠gs) (hnB:gn<base) (hsB:gs<base) (hxB:gx<base) (hpB:gp<base) (hbx:b<gx) (hbp:b<gp) (hnx:gx≠gn) (hnp:gp≠gn) (hnu:gu≠b/\gu≠gn) :
  Calls Tryz.prog 77 #[.pointer (some ⟨b,0,none⟩),.func (.func 120) #[] #[.pointer (some ⟨gx,0,none⟩),.pointer (some ⟨gp,0,none⟩)],.slice (some ⟨gu,0,none⟩) kidWs.length kidWs.length] w λ e w'=>e=.returned (.tuple #[])/\∃y,(m.go (It (kidS (nodeR d)) ki)).is y/\B2 b K V D gn jn gs gx gp gu base T pre kc nmv dfv pv x Wb y (m.go (It (kidS (nodeR d)) ki)).void w':=by
 cases m with
 |out=>exact absurd rfl h.ps.notOut
 |bad c p =>
  refine each_it b K D gu kidWs _ _ (λ _ _=>by kernel_rfl) (kidS (nodeR d)) (kidS_goes (nodeR_takes d)) (λ ki m W=>B2 b K V D gn jn gs gx gp gu base T pre kc nmv dfv pv x Wb ki m W/\m=.bad c p) (λ x m w hi=>⟨V,hi.1.ps⟩) (λ x m w hi=>hi.1.tx) (λ x m w w' hi hb=>⟨hi.1.below hb,hi.2⟩) (kidS_stop _) (kidS_goon _) (λ x s W hi=>absurd hi.2 (by intro h;cases h)) ki _ w ⟨h,rfl⟩ (by decide) |>.mono ?_
  rintro e w' ⟨rfl,y,h1,h2,_⟩;exact ⟨rfl,y,h1,h2⟩
 |ok u s0 =>
  have hnd:=hnd ⟨s0,rfl⟩;refine each_it b K D gu kidWs _ _ (λ _ _=>by kernel_rfl) (kidS (nodeR d)) (kidS_goes (nodeR_takes d)) (B2 b K V D gn jn gs gx gp gu base T pre kc nmv dfv pv x Wb) (λ x m w hi=>⟨V,hi.ps⟩) (λ x m w hi=>hi.tx) (λ x m w w' hi hb=>hi.below hb) (kidS_stop _) (kidS_goon _) ?_ ki _ w h (by decide);intro ki s W hi hbg;obtain ⟨t,l,hs,hl,_⟩:=hi.ps.head rfl;refine (skid_any W b K V D d s gu gn jn gs gx gp base T pre kc nmv dfv pv x ki hi.ps hi.ns hpre hi.gx hi.gp hbg hnd hbn hbs hns hnB hsB hxB hpB hbx hbp hi.sz hi.tx.lt (by have:=hi.len s rfl;omega)).mono ?_;rintro e w' ⟨rfl,y,h1,h2,h3,h4,h5⟩;refine ⟨rfl,y,h1,h2,h3,hi.tx.ch h4 (by omega),hi.gp.ch h4 (by omega),hi.gx.ch h4 (by omega),hi.ch.trans h4,λ s' e=>?_,Nat.le_trans hi.sz h4.size⟩;have:=step_left (kidS_steps (nodeR_takes d)) (λ y s'=>kidS_goon (nodeR d) ki s y s' t l hs hl hbg) e;have:=hi.len s rfl;omega
theorem PS.lev {w:World} {b:Nat} {K:Kx} {V D:Int} {m:Rs Unit} (h:PS w b K V D m) (D':Int):PS (w.setCell ⟨b,8,none⟩ (.int .i64 D')) b K V D' m:=by
 obtain ⟨r,h1,h2,h3,h4,h5⟩:=h.out;exact h.turn (r:={ r with D:=D' }) ((Mv.refl b w).set 8 _) (h1.setD D') h2 h3 rfl (by cases m <;> exact h5)
theorem body_eq {m m1 m2:Rs Unit} {nd:Ss->Rs SyNode} {x:SyB} {l:List SyNode} (h1:(m.go (It clauseS SyB.none)).is x) (e1:(m.go (It clauseS SyB.none)).void=m1) (h2:(m1.go (It (kidS nd) [])).is l) (e2:(m1.go (It (kidS nd) [])).void=m2) :
  m.go (bodyR nd)=m2.go λ s=>.ok (x,l) s:=by
 unfold bodyR;rw [go_bind,Rs.seq h1,e1,go_bind,Rs.seq h2,e2]
def BdEnd (w:World) (b:Nat) (K:Kx) (V D:Int) (d:Nat) (m:Rs Unit) (gn:Nat) (T:TypeId) (pre:List Value) (kc nmv dfv pv:Value) (e:Ending) (w':World):Prop :=
 e=.returned (.tuple #[])/\∃z:SyB×List SyNode,(m.go (bodyR (nodeR d))).is z/\PS w' b K V D (m.go (bodyR (nodeR d))).void /\
  (∃v1 v2 v3 v4 F1 F2 F3 F4,CB w' gn T (pre++ndC kc nmv (txV z.1.initial) dfv v1 v2 v3 v4 pv)/\Q4 w' w.heap.size (dvActs true z.1.enter) (dvActs true z.1.leave) (dvMoves true z.1.moves) (dvKids true z.2) v1 v2 v3 v4 F1 F2 F3 F4)/\Ch (λ k=>k=b∨k=gn) w w'
theorem sbody_any (w:World) (b:Nat) (K:Kx) (V D:Int) (d:Nat) (m:Rs Unit) (gn jn:Nat) (T:TypeId) (pre:List Value) (kc nmv dfv pv:Value) (h:PS w b K V D m) (hD:0<=D/\D<=12) (hnd:(∃s,m=.ok () s)->NodeC b K (D+1) d)
  (hcell:CB w gn T (pre++ndC kc nmv (.string ⟨#[]⟩) dfv (.slice none 0 0) (.slice none 0 0) (.slice none 0 0) (.slice none 0 0) pv)) (hpre:pre.length=jn) (hbn:b<gn) :
  Calls Tryz.prog 80 #[.pointer (some ⟨b,0,none⟩),.pointer (some ⟨gn,jn,none⟩)] w (BdEnd w b K V D d m gn T pre kc nmv dfv pv):=by
 obtain ⟨gp,hgp⟩:∃g,g=w.heap.size:=⟨_,rfl⟩
 obtain ⟨gx,hgx⟩:∃g,g=w.heap.size+1:=⟨_,rfl⟩
 obtain ⟨gs,hgs⟩:∃g,g=w.heap.size+1+1:=⟨_,rfl⟩
 obtain ⟨W1,hW1⟩:∃W1,W1=(w.alloc (.cells #[.pointer (some ⟨b,0,none⟩)] 134)).alloc (.cells #[.pointer (some ⟨gn,jn,none⟩)] 141):=⟨_,rfl⟩
 have hsz1:(w.alloc (.cells #[.pointer (some ⟨b,0,none⟩)] 134)).heap.size=w.heap.size+1:=by simp
 have hsz2:W1.heap.size=w.heap.size+1+1:=by rw [hW1];simp
 obtain ⟨W0,hW0⟩:∃W0,W0=W1.alloc (.cells #[.bool false,.bool false,.bool false] 169):=⟨_,rfl⟩
 have hsz3:W0.heap.size=w.heap.size+3:=by rw [hW0];simp [hsz2]
 have HGP:Hid (CB W0 gp 134 [.pointer (some ⟨b,0,none⟩)]):=by rw [hW0,hW1,hgp];exact ((CB.new w _ [.pointer (some ⟨b,0,none⟩)]).alloc _).alloc _
 have HGX:Hid (CB W0 gx 141 [.pointer (some ⟨gn,jn,none⟩)]):=by
  have:=CB.new (w.alloc (.cells #[.pointer (some ⟨b,0,none⟩)] 134)) 141 [.pointer (some ⟨gn,jn,none⟩)];rw [hsz1,<-hgx] at this;rw [hW0,hW1];exact this.alloc _
 have HGS:Hid (CB W0 gs 169 [.bool false,.bool false,.bool false]):=by
  have:=CB.new W1 169 [.bool false,.bool false,.bool false];rw [hsz2,<-hgs] at this;rw [hW0];exact this
 have HB0:Hid (Below w.heap.size w W0):=by rw [hW0,hW1];exact (((b_ _ w).alloc (n_ _) _).alloc (by simp) _).alloc (by simp;omega) _
 have hbw:=h.blt;have hnw:=hcell.lt;have HP:=h_ (h.below HB0.out);have HCL:=h_ (hcell.below HB0.out);have HND:=h_ hnd;have HPRE:=h_ hpre
 have hbx:b<gx:=by omega
 have hbp:b<gp:=by omega
 have hbs:b<gs:=by omega
 obtain ⟨r,hr,_,_,hrD,_⟩:=HP.out.out;have y8:=hr.c8;rw [hrD] at y8;have yf:=hr.fr 8;have yp:=HGP.out.c 0 rfl;have ew:IntKind.i64.wrap (D+1)=D+1:=IntWalk.i64_in _ (by constructor <;> omega)
 have ew2:IntKind.i64.wrap (D+1-1)=D:=by rw [show D+1-1=D from by omega];exact IntWalk.i64_in _ (by constructor <;> omega)
 have EW2:=h_ ew2
 obtain ⟨W2,hW2⟩:∃W2,W2=(W0.setCell ⟨b,8,none⟩ (.int .i64 (D+1))).alloc (.cells #[.string ⟨#[105,110,105,116,105,97,108]⟩,.string ⟨#[101,110,116,101,114]⟩,.string ⟨#[108,101,97,118,101]⟩,.string ⟨#[111,110]⟩,.string ⟨#[97,108,119,97,121,115]⟩,.string ⟨#[97,102,116,101,114]⟩] 9):=⟨_,rfl⟩
 obtain ⟨gu,hgu⟩:∃g,g=W0.heap.size:=⟨_,rfl⟩
 have hm1:Mv b W0 (W0.setCell ⟨b,8,none⟩ (.int .i64 (D+1))):=(Mv.refl b W0).set 8 _
 have hb2:Below W0.heap.size (W0.setCell ⟨b,8,none⟩ (.int .i64 (D+1))) W2:=by rw [hW2];exact (b_ _ _).alloc (by simp) _
 have hb2':Below (W0.setCell ⟨b,8,none⟩ (.int .i64 (D+1))).heap.size (W0.setCell ⟨b,8,none⟩ (.int .i64 (D+1))) W2:=by rw [hW2];exact (b_ _ _).alloc (n_ _) _
 have HM2:Hid (Mv b W0 W2):=hm1.trans (Mv.of b hb2')
 have hsz4:W2.heap.size=gu+1:=by rw [hW2,hgu];simp
 have hguv:gu=w.heap.size+3:=by omega
 have HT1:Hid (CB W2 gu 9 (clWs.map txV)):=by
  have:=CB.new (W0.setCell ⟨b,8,none⟩ (.int .i64 (D+1))) 9 (clWs.map txV);rw [show (W0.setCell ⟨b,8,none⟩ (.int .i64 (D+1))).heap.size=W0.heap.size from by simp] at this;rw [hW2,hgu];exact this
 have HB1:Hid (B1 b K V (D+1) gn jn gs gx gp gu (gu+1) T pre kc nmv dfv pv W2 SyB.none m W2):=by
  refine ⟨(HP.out.lev (D+1)).below hb2',⟨⟨_,_,_,_,[],[],[],[],HCL.out.mv HM2.out (by omega),?_⟩,HGS.out.mv HM2.out (by omega)⟩,HT1.out,HGP.out.mv HM2.out (by omega),HGX.out.mv HM2.out (by omega),Ch.refl _ _,λ s e=>?_,by omega⟩
  ·exact Q4.nil _ _ _ _ _ _ _ _ _ _
  ·subst e;have h1:=HP.out.left_le;have h2:=HP.out.ok.n;show 0+_<=_;omega
 have HC1:=h_ (body_clauses W2 b K V (D+1) m gn jn gs gx gp gu (gu+1) T pre kc nmv dfv pv W2 SyB.none HB1.out hpre hbn hbs (by omega) (by omega) (by omega) (by omega) (by omega) (by omega) (by omega) (by omega) (by omega))
 have hord:w.heap.size<=gp/\gp<gx/\gx<gs/\gs<gu:=by omega
 have hW2l:gu+1<=W2.heap.size:=by omega
 have HS0:Hid (W0.heap.size=gu):=hgu.symm;have HW2:=h_ hW2;have HCH2:Hid (Ch (λ k=>k=b∨k=gn) w W2):=(Ch.of_below HB0.out).trans ((Ch.of_mv HM2.out).mono (λ k _ h=>.inl h));clear h hcell hnd hr hpre hrD hm1 hb2 hb2' ew2 hsz3 hsz4 hsz2 hsz1 hgu hW2 hguv;go_enter Tryz.func80,Tryz.ntmps80;go_upto_region 2 with fail;rw [<-hW1,<-hW0,<-hgs,<-hgx,<-hgp];clear hW1 hW0 hgs hgx hgp;have hs0:=HS0.out;go_wp2_with fail;rw [<-HW2.out];clear HW2 HS0 hs0;refine HC1.out.mono ?_;rintro e w3 ⟨rfl,x,hx,hb1⟩
 obtain ⟨m1,hm1⟩:∃m1,(m.go (It clauseS SyB.none)).void=m1:=⟨_,rfl⟩
 rw [hm1] at hb1;have HX:=h_ hx;have HM1:=h_ hm1;have HB1':=h_ hb1;have yp3:=hb1.gp.c 0 rfl
 obtain ⟨gk,hgk⟩:∃g,g=w3.heap.size:=⟨_,rfl⟩
 obtain ⟨W4,hW4⟩:∃W4,W4=w3.alloc (.cells #[.string ⟨#[115,116,97,116,101]⟩,.string ⟨#[112,97,114,97,108,108,101,108]⟩,.string ⟨#[104,105,115,116,111,114,121]⟩,.string ⟨#[100,101,101,112]⟩] 9):=⟨_,rfl⟩
 have hb4:Below w3.heap.size w3 W4:=by rw [hW4];exact (b_ _ w3).alloc (n_ _) _
 have hgk1:gu+1<=gk:=by rw [hgk];exact hb1.sz
 have HB2:Hid (B2 b K V (D+1) gn jn gs gx gp gk (gu+1) T pre kc nmv dfv pv x W4 [] m1 W4):=by
  refine ⟨hb1.ps.below hb4,by rw [hgk];exact hb1.ns.k.below hb4,?_,hb1.gp.below hb4,hb1.gx.below hb4,Ch.refl _ _,λ s e=>?_,Nat.le_trans hb1.sz hb4.size⟩
  ·rw [hW4,hgk];exact CB.new w3 9 (kidWs.map txV)
  ·have:=hb1.len s e;show 0+_<=_;omega
 have HN1:Hid ((∃s,m1=.ok () s)->NodeC b K (D+1) d):=λ ⟨s,e⟩=>HND.out (by
  rw [<-HM1.out] at e
  cases hm:m with
  |out=>rw [hm] at e;cases e
  |bad c p=>rw [hm] at e;cases e
  |ok u s0=>exact ⟨s0,rfl⟩)
 have HC2:=h_ (body_kids W4 b K V (D+1) d m1 gn jn gs gx gp gk (gu+1) T pre kc nmv dfv pv x W4 [] HB2.out HPRE.out HN1.out hbn hbs (by omega) (by omega) (by omega) (by omega) (by omega) hbx hbp (by omega) (by omega) (by omega));have HCH4:Hid (Ch (λ k=>k=b∨k=gn) w W4):=(HCH2.out.trans2 hb1.ch (λ j hj hh=>by omega)).trans (Ch.of_below hb4);clear hx hb1 hm1 hb4 HC1 yp y8 yf ew;go_wp2_with fail;rw [<-hW4,<-hgk];clear hW4 hgk;refine HC2.out.mono ?_;rintro e w5 ⟨rfl,l,hl,hb2⟩
 obtain ⟨m2,hm2⟩:∃m2,(m1.go (It (kidS (nodeR d)) [])).void=m2:=⟨_,rfl⟩
 rw [hm2] at hb2;have HL:=h_ hl;have HM2E:=h_ hm2;have HB2':=h_ hb2;have yp5:=hb2.gp.c 0 rfl;obtain ⟨r,hr,_,_,hrD,_⟩:=hb2.ps.out;have y8:=hr.c8;rw [hrD] at y8;have yf:=hr.fr 8;have ew2:=EW2.out;clear hl hb2 hm2 hr hrD HC2 yp3;go_wp2_with fail;go_end0;have hR:=body_eq HX.out HM1.out HL.out HM2E.out;have hm5:Mv b w5 (w5.setCell ⟨b,8,none⟩ (.int .i64 D)):=(Mv.refl b w5).set 8 _;obtain ⟨v1,v2,v3,v4,F1,F2,F3,F4,c1,c2,_⟩:=HB2'.out.ns.ex;have hc3:=c2.ch (Ch.of_mv hm5) (λ g hg _ e=>by have e':g=b:=e;omega);refine ⟨rfl,(x,l),?_,?_,⟨v1,v2,v3,v4,F1,F2,F3,F4,c1.mv hm5 (by omega),?_⟩,?_⟩
 ·rw [hR];exact go_ok_is _ _
 ·rw [hR,go_ok_void];exact HB2'.out.ps.lev D
 ·have hle:w.heap.size<=gu+1:=by omega
  exact { hc3 with l1:=λ g hg=>Nat.le_trans hle (hc3.l1 g hg),l2:=λ g hg=>Nat.le_trans hle (hc3.l2 g hg),l3:=λ g hg=>Nat.le_trans hle (hc3.l3 g hg),l4:=λ g hg=>Nat.le_trans hle (hc3.l4 g hg) }
 ·exact (HCH4.out.trans2 HB2'.out.ch (λ j hj hh=>by omega)).trans ((Ch.of_mv hm5).mono (λ k _ h=>.inl h))
theorem sstate1_any (w:World) (b:Nat) (K:Kx) (V D:Int) (d:Nat) (m:Rs Unit) (gp gn:Nat) (kc nmv dfv pv:Value) (h:PS w b K V D m) (hD:0<=D/\D<=12) (hnd:(∃s,m=.ok () s)->NodeC b K (D+1) d)
  (hgp:CB w gp 134 [.pointer (some ⟨b,0,none⟩)]) (hcell:CB w gn 27 (ndC kc nmv (.string ⟨#[]⟩) dfv (.slice none 0 0) (.slice none 0 0) (.slice none 0 0) (.slice none 0 0) pv)) (hbn:b<gn) :
  Calls Tryz.prog 191 #[.pointer (some ⟨gp,0,none⟩),.pointer (some ⟨gn,0,none⟩)] w (BdEnd w b K V D d m gn 27 [] kc nmv dfv pv):=by
 have HC:=h_ (sbody_any w b K V D d m gn 0 27 [] kc nmv dfv pv h hD hnd hcell rfl hbn);have y0:=hgp.c 0 rfl;clear h hgp hcell hnd;go_enter Tryz.func191,Tryz.ntmps191;go_wp2_with fail;refine HC.out.mono ?_;rintro e w1 ⟨rfl,hh⟩;have HH:=h_ hh;clear hh HC y0;go_wp2_with fail;go_end0;exact ⟨rfl,HH.out⟩
theorem state_eq {m m1 m2 m3:Rs Unit} {d kd:Nat} {nd:Ss->Rs SyNode} {x:List UInt8} {p:Int} {z:SyB×List SyNode} (his:(m.go (namedR d)).is (x,p)) (h1:(m.go (namedR d)).void=m1) (h2:m1.go (mustR 4 [123])=m2) (hi3:(m2.go (bodyR nd)).is z) (h3:(m2.go (bodyR nd)).void=m3) :
  (m.go λ s=>(namedR d s).bind λ y s1=>innerR nd kd y s1)=(m3.go (mustR 4 [125])).go λ s=>.ok (nodeOf kd (x,p) z) s:=by
 have e1:(m1.go λ s1=>innerR nd kd (x,p) s1)=(m2.go (bodyR nd)).bind λ z s3=>(mustR 4 [125] s3).bind λ _ s4=>.ok (nodeOf kd (x,p) z) s4:=by
  rw [<-h2,go_go,<-go_bind]
  congr 1
  funext s1
  unfold innerR
  cases mustR 4 [123] s1 <;> rfl
 rw [go_bind,Rs.seq his,h1,e1,Rs.seq hi3,h3];exact (must_fin _ _).symm
theorem rep_node {W:World} {base:Nat} {kd:Nat} {x:List UInt8} {p:Int} {z:SyB×List SyNode} {v1 v2 v3 v4:Value} {F1 F2 F3 F4:List Nat} (h:Q4 W base (dvActs true z.1.enter) (dvActs true z.1.leave) (dvMoves true z.1.moves) (dvKids true z.2) v1 v2 v3 v4 F1 F2 F3 F4) {X Y:ByteArray} (hX:txV x=.string X) (hY:txV z.1.initial=.string Y) :
  Rep W base (dvNode true (nodeOf kd (x,p) z)) [.int .i64 (kd:Int),.string X,.string Y,.string ⟨#[]⟩,v1,v2,v3,v4,.int .i64 p]:=by
 have:=Rep.node (k:=kd) (p:=p) (nm:=x) (ini:=z.1.initial) (dft:=[]) h;unfold ndC at this;rw [hX,hY] at this;exact this
theorem str_of (t:List UInt8):∃X,txV t=.string X:=⟨_,rfl⟩
def StEnd (w:World) (b:Nat) (K:Kx) (V D:Int) (m:Rs SyNode) (e:Ending) (w':World):Prop :=
 ∃(x:SyNode) (ys:List Value),e=.returned (.agg ys.toArray)/\Rep w' w.heap.size (dvNode true x) ys/\ys.length=9/\m.is x/\PS w' b K V D m.void/\Mv b w w'
theorem sstate_any (w:World) (b:Nat) (K:Kx) (V D:Int) (m:Rs Unit) (h:PS w b K V D m) (kd:Nat) (d:Nat) (hD:D=12-(d:Int)) (hd12:d<=12) (hnd:d≠0->NodeC b K (D+1) (d-1)) :
  Calls Tryz.prog 157 #[.pointer (some ⟨b,0,none⟩),.int .i64 (kd:Int)] w (StEnd w b K V D (m.go λ s=>(namedR d s).bind λ y s1=>innerR (nodeR (d-1)) kd y s1)):=by
 obtain ⟨gp,hgp⟩:∃g,g=w.heap.size:=⟨_,rfl⟩
 obtain ⟨gr,hgr⟩:∃g,g=w.heap.size+1:=⟨_,rfl⟩
 obtain ⟨W0,hW0⟩:∃W0,W0=(w.alloc (.cells #[.pointer (some ⟨b,0,none⟩)] 134)).alloc (.cells #[.int .i64 0,.string ⟨#[]⟩,.string ⟨#[]⟩,.string ⟨#[]⟩,.slice none 0 0,.slice none 0 0,.slice none 0 0,.slice none 0 0,.int .i64 0] 27):=⟨_,rfl⟩
 have hsz:(w.alloc (.cells #[.pointer (some ⟨b,0,none⟩)] 134)).heap.size=w.heap.size+1:=by simp
 have HGP:Hid (CB W0 gp 134 [.pointer (some ⟨b,0,none⟩)]):=by rw [hW0,hgp];exact (CB.new w _ [.pointer (some ⟨b,0,none⟩)]).alloc _
 have HR:Hid (CB W0 gr 27 zNode):=by rw [hW0,hgr,<-hsz];exact CB.new _ _ zNode
 have HB0:Hid (Below w.heap.size w W0):=by rw [hW0];exact ((b_ _ w).alloc (n_ _) _).alloc (by simp) _
 have hbw:=h.blt
 have hgpw:w.heap.size<=gp:=by omega
 have hgrp:gp<gr:=by omega
 have HC1:=h_ (snamed_any W0 b K V D m (h.below HB0.out) kd d hD hd12);have HND:=h_ hnd;have HDD:=h_ (And.intro hD hd12);have yp:=HGP.out.c 0 rfl;clear h hD hnd;go_enter Tryz.func157,Tryz.ntmps157;go_upto_region 1 with fail;rw [<-hW0,<-hgr,<-hgp];clear hW0 hgp hgr hsz;go_wp2_with fail;refine HC1.out.mono ?_;rintro e w1 ⟨x,p,rfl,his,hp,hm⟩;obtain ⟨X,hX⟩:=str_of x;have HX:=h_ hX;unfold nNode;rw [hX]
 obtain ⟨gn,hgn⟩:∃g,g=w1.heap.size:=⟨_,rfl⟩
 obtain ⟨W1,hW1⟩:∃W1,W1=w1.alloc (.cells #[.int .i64 (kd:Int),.string X,.string ⟨#[]⟩,.string ⟨#[]⟩,.slice none 0 0,.slice none 0 0,.slice none 0 0,.slice none 0 0,.int .i64 p] 27):=⟨_,rfl⟩
 have hb1:Below w1.heap.size w1 W1:=by rw [hW1];exact (b_ _ w1).alloc (n_ _) _
 have HN1:Hid (CB W1 gn 27 (ndC (.int .i64 (kd:Int)) (.string X) (.string ⟨#[]⟩) (.string ⟨#[]⟩) (.slice none 0 0) (.slice none 0 0) (.slice none 0 0) (.slice none 0 0) (.int .i64 p))):=by rw [hW1,hgn];exact CB.new w1 _ _
 have HGP1:=h_ ((HGP.out.mv hm (by omega)).below hb1);have HR1:=h_ ((HR.out.mv hm (by omega)).below hb1);have HM1:Hid (Mv b w W1):=((Mv.of b HB0.out).trans hm).trans (Mv.of b hb1);have HIS:=h_ his
 obtain ⟨m1,hm1⟩:∃m1,(m.go (namedR d)).void=m1:=⟨_,rfl⟩
 rw [hm1] at hp;have HM1E:=h_ hm1;have HP1:=h_ (hp.below hb1)
 have hgn1:gr<gn:=by have:=(HR.out.mv hm (by omega)).lt;omega
 obtain ⟨m2,hm2⟩:∃m2,m1.go (mustR 4 [123])=m2:=⟨_,rfl⟩
 have HM2E:=h_ hm2
 obtain ⟨nd,hndd⟩:∃nd,d-1=nd:=⟨_,rfl⟩
 have HNDD:=h_ hndd
 obtain ⟨m3,hm3⟩:∃m3,(m2.go (bodyR (nodeR nd))).void=m3:=⟨_,rfl⟩
 have HM3E:=h_ hm3
 have HOK:Hid ((∃s,m2=.ok () s)->NodeC b K (D+1) nd):=λ ⟨s,e⟩=>by
  rw [<-HNDD.out];refine HND.out (λ h0=>?_);rw [<-HM2E.out,<-HM1E.out,h0] at e
  cases m with
  |out=>cases e
  |bad c p=>cases e
  |ok u s1 =>
   obtain ⟨c,p,e1⟩:=namedR_zero s1;have e2:((namedR 0 s1).void).go (mustR 4 [123])=.ok () s:=e;rw [e1] at e2;cases e2
 have HC2:Hid (Calls Tryz.prog 75 #[.pointer (some ⟨b,0,none⟩),.func (.func 191) #[] #[.pointer (some ⟨gp,0,none⟩),.pointer (some ⟨gn,0,none⟩)]] W1 λ e w'=>e=.returned (.tuple #[])/\∃z:SyB×List SyNode,(m2.go (bodyR (nodeR nd))).is z/\PS w' b K V D (m3.go (mustR 4 [125])) /\
   (∃v1 v2 v3 v4 F1 F2 F3 F4,CB w' gn 27 (ndC (.int .i64 (kd:Int)) (.string X) (txV z.1.initial) (.string ⟨#[]⟩) v1 v2 v3 v4 (.int .i64 p))/\Q4 w' W1.heap.size (dvActs true z.1.enter) (dvActs true z.1.leave) (dvMoves true z.1.moves) (dvKids true z.2) v1 v2 v3 v4 F1 F2 F3 F4)/\Ch (λ k=>k=b∨k=gn) W1 w'):=by
  refine senclosed_any W1 b _ _ (λ _ _=>by kernel_rfl) (λ W=>PS W b K V D m2/\Mv b W1 W)
   (λ W=>∃z:SyB×List SyNode,(m2.go (bodyR (nodeR nd))).is z/\PS W b K V D m3/\(∃v1 v2 v3 v4 F1 F2 F3 F4,CB W gn 27 (ndC (.int .i64 (kd:Int)) (.string X) (txV z.1.initial) (.string ⟨#[]⟩) v1 v2 v3 v4 (.int .i64 p))/\Q4 W W1.heap.size (dvActs true z.1.enter) (dvActs true z.1.leave) (dvMoves true z.1.moves) (dvKids true z.2) v1 v2 v3 v4 F1 F2 F3 F4)/\Ch (λ k=>k=b∨k=gn) W1 W) _ ?_ ?_ ?_
  ·have:=sneed_any W1 b K V D m1 HP1.out ⟨#[123]⟩ 4 (tells_sg (by decide)) (by decide);rw [<-HM2E.out];exact this
  ·rintro W ⟨hp,hm⟩;have hs:=World.grownBy.size hm;refine (sstate1_any W b K V D nd m2 gp gn _ _ _ _ hp (by have:=HDD.out;omega) HOK.out (HGP1.out.mv hm (by omega)) (HN1.out.mv hm (by omega)) (by omega)).mono ?_;rintro e w' ⟨rfl,z,c1,c2,⟨v1,v2,v3,v4,F1,F2,F3,F4,c3,c4⟩,c5⟩;rw [HM3E.out] at c2;exact ⟨rfl,z,c1,c2,⟨v1,v2,v3,v4,F1,F2,F3,F4,c3,{ c4 with l1:=λ g hg=>Nat.le_trans hs (c4.l1 g hg),l2:=λ g hg=>Nat.le_trans hs (c4.l2 g hg),l3:=λ g hg=>Nat.le_trans hs (c4.l3 g hg),l4:=λ g hg=>Nat.le_trans hs (c4.l4 g hg) }⟩,((Ch.of_mv hm).mono (λ _ _ h=>.inl h)).trans c5⟩
  ·rintro W ⟨z,c1,c2,⟨v1,v2,v3,v4,F1,F2,F3,F4,c3,c4⟩,c5⟩;refine (sneed_any W b K V D m3 c2 ⟨#[125]⟩ 4 (tells_sg (by decide)) (by decide)).mono ?_;rintro e w' ⟨rfl,hp,hm⟩;have hbW1:=HP1.out.blt;exact ⟨rfl,z,c1,hp,⟨v1,v2,v3,v4,F1,F2,F3,F4,c3.mv hm (by omega),c4.ch (Ch.of_mv hm) (λ g hg _ e=>by have e':g=b:=e;omega)⟩,c5.trans ((Ch.of_mv hm).mono (λ _ _ h=>.inl h))⟩
 have yp1:=HGP1.out.c 0 rfl;clear hp hm hb1 hX his hm1 hm2 hm3 hndd HC1 HOK HND HGP HR yp;go_upto_region 2 with fail;rw [<-hW1,<-hgn];clear hW1 hgn;go_wp2_with fail;refine HC2.out.mono ?_;rintro e w5 ⟨rfl,z,c1,c2,⟨v1,v2,v3,v4,F1,F2,F3,F4,c3,c4⟩,c5⟩;obtain ⟨Y,hY⟩:=str_of z.1.initial;have HY:=h_ hY;rw [hY] at c3;obtain ⟨A1,k1,rfl,_⟩:=c4.a1.slice;obtain ⟨A2,k2,rfl,_⟩:=c4.a2.slice;obtain ⟨A3,k3,rfl,_⟩:=c4.a3.slice;obtain ⟨A4,k4,rfl,_⟩:=c4.a4.slice;have HZ:=h_ c1;have HP5:=h_ c2;have HQ4:=h_ c4;have HCH5:=h_ c5;have HN5:=h_ c3;have HR5:=h_ (HR1.out.ch c5 (by have:=HP1.out.blt;omega));have n0:=c3.c 0 rfl;have n1:=c3.c 1 rfl;have n2:=c3.c 2 rfl;have n3:=c3.c 3 rfl;have n4:=c3.c 4 rfl;have n5:=c3.c 5 rfl;have n6:=c3.c 6 rfl;have n7:=c3.c 7 rfl;have n8:=c3.c 8 rfl;clear c1 c2 c3 c4 c5 hY HC2 yp1;have q0:=HR5.out.c 0 rfl;have q1:=HR5.out.c 1 rfl;have q2:=HR5.out.c 2 rfl;have q3:=HR5.out.c 3 rfl;have q4:=HR5.out.c 4 rfl;have q5:=HR5.out.c 5 rfl;have q6:=HR5.out.c 6 rfl;have q7:=HR5.out.c 7 rfl;have q8:=HR5.out.c 8 rfl;have f0:=HR5.out.fr 0;have f1:=HR5.out.fr 1;have f2:=HR5.out.fr 2;have f3:=HR5.out.fr 3;have f4:=HR5.out.fr 4;have f5:=HR5.out.fr 5;have f6:=HR5.out.fr 6;have f7:=HR5.out.fr 7;have f8:=HR5.out.fr 8;go_wp2_with fail;have hres:=HR5.out.all [.int .i64 (kd:Int),.string X,.string Y,.string ⟨#[]⟩,.slice A1 z.1.enter.length k1,.slice A2 z.1.leave.length k2,.slice A3 z.1.moves.length k3,.slice A4 z.2.length k4,.int .i64 p] rfl
 have hgrw:w.heap.size<=gr:=by omega
 have hmv5:Mv b w w5:=((Ch.of_mv HM1.out).trans2 HCH5.out (S1:=λ k=>k=b∨k=gn) (λ j hj hh=>hh.elim id (λ e=>by omega))).mv (λ k _ h=>h);have hmf:=sets_put hmv5 hgrw 0 [.int .i64 (kd:Int),.string X,.string Y,.string ⟨#[]⟩,.slice A1 z.1.enter.length k1,.slice A2 z.1.leave.length k2,.slice A3 z.1.moves.length k3,.slice A4 z.2.length k4,.int .i64 p];have hpf:=HP5.out.sets (g:=gr) (by omega) 0 [.int .i64 (kd:Int),.string X,.string Y,.string ⟨#[]⟩,.slice A1 z.1.enter.length k1,.slice A2 z.1.leave.length k2,.slice A3 z.1.moves.length k3,.slice A4 z.2.length k4,.int .i64 p];have hq:=HQ4.out.ch (Ch.many (S:=(·=gr)) (.inl rfl) [.int .i64 (kd:Int),.string X,.string Y,.string ⟨#[]⟩,.slice A1 z.1.enter.length k1,.slice A2 z.1.leave.length k2,.slice A3 z.1.moves.length k3,.slice A4 z.2.length k4,.int .i64 p] 0 (Ch.refl _ w5)) (λ g hg _ e=>by have e':g=gr:=e;have:=HR1.out.lt;omega);have hle:w.heap.size<=W1.heap.size:=World.grownBy.size HM1.out;simp only [sets,Nat.reduceAdd] at hres hmf hpf hq;refine bodyPost_ret (resNode rfl _ rfl hres) rfl ?_;have hEQ:=state_eq (kd:=kd) HIS.out HM1E.out HM2E.out HZ.out HM3E.out;refine ⟨nodeOf kd (x,p) z,_,rfl,?_,rfl,?_,?_,hmf⟩
 ·exact rep_node { hq with l1:=λ g hg=>Nat.le_trans hle (hq.l1 g hg),l2:=λ g hg=>Nat.le_trans hle (hq.l2 g hg),l3:=λ g hg=>Nat.le_trans hle (hq.l3 g hg),l4:=λ g hg=>Nat.le_trans hle (hq.l4 g hg) } HX.out HY.out
 ·rw [HNDD.out,hEQ];exact go_ok_is _ _
 ·rw [HNDD.out,hEQ,go_ok_void];exact hpf
theorem node_inner {d k:Nat} {s:Ss} (hk:nodeK s.ts=k) (h3:k<3):nodeR d s=(Rs.ok () s.drop).go λ s=>(namedR d s).bind λ y s1=>innerR (nodeR (d-1)) k y s1:=by
 show _=(namedR d s.drop).bind _
 cases d with
 |zero =>
  obtain ⟨c,p,e⟩:=namedR_zero s.drop;unfold nodeR;rw [e];rfl
 |succ d =>
  unfold nodeR
  congr 1
  funext x s1
  rw [hk,if_neg (by omega)];rfl
theorem node_hist {d k:Nat} {s:Ss} (hk:nodeK s.ts=k) (h3:3<=k):nodeR d s=(Rs.ok () s.drop).go λ s=>(namedR d s).bind λ y s1=>histR k y s1:=by
 show _=(namedR d s.drop).bind _
 cases d with
 |zero =>
  obtain ⟨c,p,e⟩:=namedR_zero s.drop;unfold nodeR;rw [e];rfl
 |succ d =>
  unfold nodeR
  congr 1
  funext x s1
  rw [hk,if_pos h3]
theorem snode_step (b:Nat) (K:Kx) (D:Int) (d:Nat) (hD:D=12-(d:Int)) (hd12:d<=12) (hnd:d≠0->NodeC b K (D+1) (d-1)):NodeC b K D d:=by
 intro w V s h hkb;show Calls _ _ _ _ (StEnd w b K V D (nodeR d s));obtain ⟨t,l,hs,hlt,_,_,_⟩:=h.head rfl;have hwd:=(word_bgn kidWs_kw hs hlt 1 (by decide)).1 hkb
 have e1:∀u,isKw u=true->isAt 2 u s.ts=decide (t.text=u):=λ u hu=>by rw [hs];exact tells_kw hu t hlt
 have k1:=e1 wState (by decide);have k2:=e1 wParallel (by decide);have k3:=e1 wHistory (by decide);have k4:=e1 wDeep (by decide)
 have h5:kindOf s.ts≠5:=by
  intro h5
  have n:∀u,isAt 2 u s.ts=false:=λ u=>by
   rw [hs] at h5 ⊢;show isTk 2 u t=false;unfold isTk;rw [show t.kind=5 from h5];rfl
  unfold kidWs at hwd;simp only [wordAt,n] at hwd;simp at hwd
 have hcl:(t.text=wState/\nodeK s.ts=1)∨(t.text=wParallel/\nodeK s.ts=2)∨(t.text=wHistory/\nodeK s.ts=3)∨(t.text=wDeep/\nodeK s.ts=4):=by
  unfold kidWs at hwd;unfold nodeK;simp only [wordAt,k1,k2,k3,k4,decide_eq_true_eq] at hwd ⊢
  by_cases c1:t.text=wState
  ·exact .inl ⟨c1,if_pos c1⟩
  ·rw [if_neg c1] at hwd ⊢
   by_cases c2:t.text=wParallel
   ·exact .inr (.inl ⟨c2,if_pos c2⟩)
   ·rw [if_neg c2] at hwd ⊢
    by_cases c3:t.text=wHistory
    ·exact .inr (.inr (.inl ⟨c3,if_pos c3⟩))
    ·rw [if_neg c3] at hwd ⊢
     by_cases c4:t.text=wDeep
     ·exact .inr (.inr (.inr ⟨c4,if_pos c4⟩))
     ·rw [if_neg c4] at hwd;exact absurd rfl hwd
 obtain ⟨gr,hgr⟩:∃g,g=w.heap.size:=⟨_,rfl⟩
 obtain ⟨W0,hW0⟩:∃W0,W0=w.alloc (.cells #[.int .i64 0,.string ⟨#[]⟩,.string ⟨#[]⟩,.string ⟨#[]⟩,.slice none 0 0,.slice none 0 0,.slice none 0 0,.slice none 0 0,.int .i64 0] 27):=⟨_,rfl⟩
 have HR:Hid (CB W0 gr 27 zNode):=by rw [hW0,hgr];exact CB.new w _ zNode
 have HB0:Hid (Below w.heap.size w W0):=by rw [hW0];exact (b_ _ w).alloc (n_ _) _
 have hbw:=h.blt
 have hgrw:w.heap.size<=gr:=by omega
 have HC0:=h_ (stake_any W0 b K V D (.ok () s) (h.below HB0.out) (λ s' e=>by cases e;exact h5));have HCL:=h_ hcl;have HS:=h_ hs;have HND:=h_ hnd;have HDD:=h_ (And.intro hD hd12);clear h hs hlt hwd e1 k1 k2 k3 k4 h5 hcl hnd hD hkb hd12;go_enter Tryz.func121,Tryz.ntmps121;go_upto_region 1 with fail;rw [<-hW0,<-hgr];clear hW0 hgr;go_wp2_with fail;refine HC0.out.mono ?_;rintro e w1 ⟨t',rfl,htok,hp,hm⟩;obtain rfl:=head_tok htok HS.out;obtain ⟨X,hX⟩:=str_of t'.text
 have e2:X.toList=t'.text:=by
  rw [Lib.toList_data];unfold txV at hX;injection hX with hX;rw [<-hX]
 have HE2:=h_ e2;unfold tkV;rw [hX]
 have hfl:∀w,(Instr.field 131 (.agg #[.int .i64 t'.kind,.string X,.int .i64 t'.num,.int .i64 t'.at_]) 1).run Tryz.prog w=.ok (.string X) w:=λ w=>by kernel_rfl
 have HP1:Hid (PS w1 b K V D (.ok () s.drop)):=hp;have HR1:=h_ (HR.out.mv hm (by omega));have HM1:Hid (Mv b w w1):=(Mv.of b HB0.out).trans hm;have q0:=HR1.out.c 0 rfl;clear hp hm hX htok HC0 HR e2 q0;rcases HCL.out with ⟨ht,hq⟩|⟨ht,hq⟩|⟨ht,hq⟩|⟨ht,hq⟩
 ·
  have d1:(X.toList == [115,116,97,116,101])=true:=by rw [HE2.out,ht];rfl
  have hQ:=node_inner (d:=d) hq (by decide)
  have HC:Hid (Calls Tryz.prog 157 #[.pointer (some ⟨b,0,none⟩),.int .i64 1] w1 (StEnd w1 b K V D (nodeR d s))):=by
   rw [hQ];exact sstate_any w1 b K V D _ HP1.out 1 d HDD.out.1 HDD.out.2 HND.out
  clear ht hq hQ HCL HND;go_wp2_with fail;refine HC.out.mono ?_;rintro e w2 ⟨x,ys,rfl,hrp,hl,his,hp,hm⟩
  have zo:∀u∈ys,u.oneCell'=true:=by obtain ⟨F2,f1,_,_⟩:=hrp;exact f1.ones
  obtain ⟨y0,y1,y2,y3,y4,y5,y6,y7,y8,rfl⟩:=cells9 hl;have st:∀y∈[y0,y1,y2,y3,y4,y5,y6,y7,y8],∀(w:World) (a:Addr),(store a y).run Tryz.prog w=stored Tryz.prog w a y .plain:=λ y hy w a=>run_store _ w a y .plain (zo y hy);have s0:=st y0 (by simp);have s1:=st y1 (by simp);have s2:=st y2 (by simp);have s3:=st y3 (by simp);have s4:=st y4 (by simp);have s5:=st y5 (by simp);have s6:=st y6 (by simp);have s7:=st y7 (by simp);have s8:=st y8 (by simp);have HR2:=h_ (HR1.out.mv hm (by omega));have hgw1:gr<w1.heap.size:=HR1.out.lt;have HRP:=h_ hrp;have HIS:=h_ his;have HP2:=h_ hp;have HM2:=h_ (HM1.out.trans hm);have hs1:w.heap.size<=w1.heap.size:=World.grownBy.size HM1.out;clear st zo hl hrp his hp hm HC HR1 HP1;have q0:=HR2.out.c 0 rfl;have q1:=HR2.out.c 1 rfl;have q2:=HR2.out.c 2 rfl;have q3:=HR2.out.c 3 rfl;have q4:=HR2.out.c 4 rfl;have q5:=HR2.out.c 5 rfl;have q6:=HR2.out.c 6 rfl;have q7:=HR2.out.c 7 rfl;have q8:=HR2.out.c 8 rfl;have f0:=HR2.out.fr 0;have f1:=HR2.out.fr 1;have f2:=HR2.out.fr 2;have f3:=HR2.out.fr 3;have f4:=HR2.out.fr 4;have f5:=HR2.out.fr 5;have f6:=HR2.out.fr 6;have f7:=HR2.out.fr 7;have f8:=HR2.out.fr 8;go_wp2_with fail;have hres:=HR2.out.all [y0,y1,y2,y3,y4,y5,y6,y7,y8] rfl;have hmf:=sets_put HM2.out hgrw 0 [y0,y1,y2,y3,y4,y5,y6,y7,y8];have hpf:=HP2.out.sets (g:=gr) (by omega) 0 [y0,y1,y2,y3,y4,y5,y6,y7,y8];have hrf:=HRP.out.ch (Ch.many (S:=(·=gr)) (.inl rfl) [y0,y1,y2,y3,y4,y5,y6,y7,y8] 0 (Ch.refl _ w2)) (λ g hg _ e=>by have e':g=gr:=e;omega);simp only [sets,Nat.reduceAdd] at hres hmf hpf hrf;refine bodyPost_ret (resNode rfl _ rfl hres) rfl ?_;exact ⟨x,_,rfl,hrf.mono hs1,rfl,HIS.out,hpf,hmf⟩
 ·
  have d1:(X.toList == [115,116,97,116,101])=false:=by rw [HE2.out,ht];rfl
  have d2:(X.toList == [112,97,114,97,108,108,101,108])=true:=by rw [HE2.out,ht];rfl
  have hQ:=node_inner (d:=d) hq (by decide)
  have HC:Hid (Calls Tryz.prog 157 #[.pointer (some ⟨b,0,none⟩),.int .i64 2] w1 (StEnd w1 b K V D (nodeR d s))):=by
   rw [hQ];exact sstate_any w1 b K V D _ HP1.out 2 d HDD.out.1 HDD.out.2 HND.out
  clear ht hq hQ HCL HND;go_wp2_with fail;refine HC.out.mono ?_;rintro e w2 ⟨x,ys,rfl,hrp,hl,his,hp,hm⟩
  have zo:∀u∈ys,u.oneCell'=true:=by obtain ⟨F2,f1,_,_⟩:=hrp;exact f1.ones
  obtain ⟨y0,y1,y2,y3,y4,y5,y6,y7,y8,rfl⟩:=cells9 hl;have st:∀y∈[y0,y1,y2,y3,y4,y5,y6,y7,y8],∀(w:World) (a:Addr),(store a y).run Tryz.prog w=stored Tryz.prog w a y .plain:=λ y hy w a=>run_store _ w a y .plain (zo y hy);have s0:=st y0 (by simp);have s1:=st y1 (by simp);have s2:=st y2 (by simp);have s3:=st y3 (by simp);have s4:=st y4 (by simp);have s5:=st y5 (by simp);have s6:=st y6 (by simp);have s7:=st y7 (by simp);have s8:=st y8 (by simp);have HR2:=h_ (HR1.out.mv hm (by omega));have hgw1:gr<w1.heap.size:=HR1.out.lt;have HRP:=h_ hrp;have HIS:=h_ his;have HP2:=h_ hp;have HM2:=h_ (HM1.out.trans hm);have hs1:w.heap.size<=w1.heap.size:=World.grownBy.size HM1.out;clear st zo hl hrp his hp hm HC HR1 HP1;have q0:=HR2.out.c 0 rfl;have q1:=HR2.out.c 1 rfl;have q2:=HR2.out.c 2 rfl;have q3:=HR2.out.c 3 rfl;have q4:=HR2.out.c 4 rfl;have q5:=HR2.out.c 5 rfl;have q6:=HR2.out.c 6 rfl;have q7:=HR2.out.c 7 rfl;have q8:=HR2.out.c 8 rfl;have f0:=HR2.out.fr 0;have f1:=HR2.out.fr 1;have f2:=HR2.out.fr 2;have f3:=HR2.out.fr 3;have f4:=HR2.out.fr 4;have f5:=HR2.out.fr 5;have f6:=HR2.out.fr 6;have f7:=HR2.out.fr 7;have f8:=HR2.out.fr 8;go_wp2_with fail;have hres:=HR2.out.all [y0,y1,y2,y3,y4,y5,y6,y7,y8] rfl;have hmf:=sets_put HM2.out hgrw 0 [y0,y1,y2,y3,y4,y5,y6,y7,y8];have hpf:=HP2.out.sets (g:=gr) (by omega) 0 [y0,y1,y2,y3,y4,y5,y6,y7,y8];have hrf:=HRP.out.ch (Ch.many (S:=(·=gr)) (.inl rfl) [y0,y1,y2,y3,y4,y5,y6,y7,y8] 0 (Ch.refl _ w2)) (λ g hg _ e=>by have e':g=gr:=e;omega);simp only [sets,Nat.reduceAdd] at hres hmf hpf hrf;refine bodyPost_ret (resNode rfl _ rfl hres) rfl ?_;exact ⟨x,_,rfl,hrf.mono hs1,rfl,HIS.out,hpf,hmf⟩
 ·
  have d1:(X.toList == [115,116,97,116,101])=false:=by rw [HE2.out,ht];rfl
  have d2:(X.toList == [112,97,114,97,108,108,101,108])=false:=by rw [HE2.out,ht];rfl
  have d3:(X.toList == [104,105,115,116,111,114,121])=true:=by rw [HE2.out,ht];rfl
  have hQ:=node_hist (d:=d) hq (by decide)
  have HC:Hid (Calls Tryz.prog 158 #[.pointer (some ⟨b,0,none⟩),.int .i64 3] w1 (StEnd w1 b K V D (nodeR d s))):=by
   rw [hQ];exact shistory_any w1 b K V D _ HP1.out 3 d HDD.out.1 HDD.out.2
  clear ht hq hQ HCL HND;go_wp2_with fail;refine HC.out.mono ?_;rintro e w2 ⟨x,ys,rfl,hrp,hl,his,hp,hm⟩
  have zo:∀u∈ys,u.oneCell'=true:=by obtain ⟨F2,f1,_,_⟩:=hrp;exact f1.ones
  obtain ⟨y0,y1,y2,y3,y4,y5,y6,y7,y8,rfl⟩:=cells9 hl;have st:∀y∈[y0,y1,y2,y3,y4,y5,y6,y7,y8],∀(w:World) (a:Addr),(store a y).run Tryz.prog w=stored Tryz.prog w a y .plain:=λ y hy w a=>run_store _ w a y .plain (zo y hy);have s0:=st y0 (by simp);have s1:=st y1 (by simp);have s2:=st y2 (by simp);have s3:=st y3 (by simp);have s4:=st y4 (by simp);have s5:=st y5 (by simp);have s6:=st y6 (by simp);have s7:=st y7 (by simp);have s8:=st y8 (by simp);have HR2:=h_ (HR1.out.mv hm (by omega));have hgw1:gr<w1.heap.size:=HR1.out.lt;have HRP:=h_ hrp;have HIS:=h_ his;have HP2:=h_ hp;have HM2:=h_ (HM1.out.trans hm);have hs1:w.heap.size<=w1.heap.size:=World.grownBy.size HM1.out;clear st zo hl hrp his hp hm HC HR1 HP1;have q0:=HR2.out.c 0 rfl;have q1:=HR2.out.c 1 rfl;have q2:=HR2.out.c 2 rfl;have q3:=HR2.out.c 3 rfl;have q4:=HR2.out.c 4 rfl;have q5:=HR2.out.c 5 rfl;have q6:=HR2.out.c 6 rfl;have q7:=HR2.out.c 7 rfl;have q8:=HR2.out.c 8 rfl;have f0:=HR2.out.fr 0;have f1:=HR2.out.fr 1;have f2:=HR2.out.fr 2;have f3:=HR2.out.fr 3;have f4:=HR2.out.fr 4;have f5:=HR2.out.fr 5;have f6:=HR2.out.fr 6;have f7:=HR2.out.fr 7;have f8:=HR2.out.fr 8;go_wp2_with fail;have hres:=HR2.out.all [y0,y1,y2,y3,y4,y5,y6,y7,y8] rfl;have hmf:=sets_put HM2.out hgrw 0 [y0,y1,y2,y3,y4,y5,y6,y7,y8];have hpf:=HP2.out.sets (g:=gr) (by omega) 0 [y0,y1,y2,y3,y4,y5,y6,y7,y8];have hrf:=HRP.out.ch (Ch.many (S:=(·=gr)) (.inl rfl) [y0,y1,y2,y3,y4,y5,y6,y7,y8] 0 (Ch.refl _ w2)) (λ g hg _ e=>by have e':g=gr:=e;omega);simp only [sets,Nat.reduceAdd] at hres hmf hpf hrf;refine bodyPost_ret (resNode rfl _ rfl hres) rfl ?_;exact ⟨x,_,rfl,hrf.mono hs1,rfl,HIS.out,hpf,hmf⟩
 ·
  have d1:(X.toList == [115,116,97,116,101])=false:=by rw [HE2.out,ht];rfl
  have d2:(X.toList == [112,97,114,97,108,108,101,108])=false:=by rw [HE2.out,ht];rfl
  have d3:(X.toList == [104,105,115,116,111,114,121])=false:=by rw [HE2.out,ht];rfl
  have hQ:=node_hist (d:=d) hq (by decide)
  have HC:Hid (Calls Tryz.prog 158 #[.pointer (some ⟨b,0,none⟩),.int .i64 4] w1 (StEnd w1 b K V D (nodeR d s))):=by
   rw [hQ];exact shistory_any w1 b K V D _ HP1.out 4 d HDD.out.1 HDD.out.2
  clear ht hq hQ HCL HND;go_wp2_with fail;refine HC.out.mono ?_;rintro e w2 ⟨x,ys,rfl,hrp,hl,his,hp,hm⟩
  have zo:∀u∈ys,u.oneCell'=true:=by obtain ⟨F2,f1,_,_⟩:=hrp;exact f1.ones
  obtain ⟨y0,y1,y2,y3,y4,y5,y6,y7,y8,rfl⟩:=cells9 hl;have st:∀y∈[y0,y1,y2,y3,y4,y5,y6,y7,y8],∀(w:World) (a:Addr),(store a y).run Tryz.prog w=stored Tryz.prog w a y .plain:=λ y hy w a=>run_store _ w a y .plain (zo y hy);have s0:=st y0 (by simp);have s1:=st y1 (by simp);have s2:=st y2 (by simp);have s3:=st y3 (by simp);have s4:=st y4 (by simp);have s5:=st y5 (by simp);have s6:=st y6 (by simp);have s7:=st y7 (by simp);have s8:=st y8 (by simp);have HR2:=h_ (HR1.out.mv hm (by omega));have hgw1:gr<w1.heap.size:=HR1.out.lt;have HRP:=h_ hrp;have HIS:=h_ his;have HP2:=h_ hp;have HM2:=h_ (HM1.out.trans hm);have hs1:w.heap.size<=w1.heap.size:=World.grownBy.size HM1.out;clear st zo hl hrp his hp hm HC HR1 HP1;have q0:=HR2.out.c 0 rfl;have q1:=HR2.out.c 1 rfl;have q2:=HR2.out.c 2 rfl;have q3:=HR2.out.c 3 rfl;have q4:=HR2.out.c 4 rfl;have q5:=HR2.out.c 5 rfl;have q6:=HR2.out.c 6 rfl;have q7:=HR2.out.c 7 rfl;have q8:=HR2.out.c 8 rfl;have f0:=HR2.out.fr 0;have f1:=HR2.out.fr 1;have f2:=HR2.out.fr 2;have f3:=HR2.out.fr 3;have f4:=HR2.out.fr 4;have f5:=HR2.out.fr 5;have f6:=HR2.out.fr 6;have f7:=HR2.out.fr 7;have f8:=HR2.out.fr 8;go_wp2_with fail;have hres:=HR2.out.all [y0,y1,y2,y3,y4,y5,y6,y7,y8] rfl;have hmf:=sets_put HM2.out hgrw 0 [y0,y1,y2,y3,y4,y5,y6,y7,y8];have hpf:=HP2.out.sets (g:=gr) (by omega) 0 [y0,y1,y2,y3,y4,y5,y6,y7,y8];have hrf:=HRP.out.ch (Ch.many (S:=(·=gr)) (.inl rfl) [y0,y1,y2,y3,y4,y5,y6,y7,y8] 0 (Ch.refl _ w2)) (λ g hg _ e=>by have e':g=gr:=e;omega);simp only [sets,Nat.reduceAdd] at hres hmf hpf hrf;refine bodyPost_ret (resNode rfl _ rfl hres) rfl ?_;exact ⟨x,_,rfl,hrf.mono hs1,rfl,HIS.out,hpf,hmf⟩
theorem snode_any (b:Nat) (K:Kx):∀(d:Nat) (D:Int),D=12-(d:Int)->d<=12->NodeC b K D d
 |0,D,hD,h12=>snode_step b K D 0 hD h12 (λ h=>absurd rfl h)
 |d+1,D,hD,h12=>snode_step b K D (d+1) hD h12 (λ _=>snode_any b K d (D+1) (by omega) (by omega))
end Go.Proofs.YtpgeidpfhakgaaaGreatDoor
