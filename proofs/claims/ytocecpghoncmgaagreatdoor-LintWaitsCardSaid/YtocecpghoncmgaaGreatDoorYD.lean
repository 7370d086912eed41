import Derived.Test.YtocecpghoncmgaaGreatDoorQh
import Derived.Test.YtocecpghoncmgaaGreatDoorYC
set_option maxHeartbeats 12800000
set_option maxRecDepth 20000
namespace Go.Proofs.YtocecpghoncmgaaGreatDoor
open Go.RowKit
theorem tk_inj {t t':Tk} (h:some (tkV t)=some (tkV t')):t=t':=by
 have d1:=Option.some.inj h;unfold tkV at d1;injection d1 with d1;have h0:=congrArg (λ a:Array Value=>a[0]?) d1;have h1:=congrArg (λ a:Array Value=>a[1]?) d1;have h2:=congrArg (λ a:Array Value=>a[2]?) d1;have h3:=congrArg (λ a:Array Value=>a[3]?) d1;simp [txV] at h0 h1 h2 h3;cases t;cases t';simp only at h0 h1 h2 h3;subst h0 h1 h2 h3;rfl
def tgF (b:Nat) (v:Value) (i:Nat) (vals:Nat->Option Value) (u:Value):Prop:=match i with
 |0=>u=v
 |1=>u=.pointer (some ⟨b,0,none⟩)
 |2=>u=.pointer (some ⟨b,0,none⟩)
 |3=>u=.pointer (some ⟨b,0,none⟩)
 |4=>∃t':Tk,u=tkV t'
 |5=>∃t':Tk,vals 4=some (tkV t')/\u=txV t'.text
 |6=>∃gs:Nat,u=.slice (some ⟨gs,0,none⟩) 1 1
 |_=>True
theorem stgt_one (w:World) (b:Nat) (K:Kx) (V D:Int) (m0:Rs Unit) (gl gp:Nat) (v:Value) (l:List (List UInt8)) (F:List Nat) (h:PS w b K V D m0) (hk0:∀s,m0=.ok () s->kindOf s.ts≠5) (hcell0:CB w gl 40 [v]) (hgp0:CB w gp 176 [.pointer (some ⟨b,0,none⟩)])
  (hrow':DvAt w (dvStrs l) v F) (hFn:F.Nodup) (hFb:∀g∈F,b<g) (hbg:b<gl) (hbp:b<gp) (hglF:gl∉F) (hgpF':gp∉F) (hn':l.length<=1000000) :
  Calls Tryz.prog 307 #[.pointer (some ⟨gp,0,none⟩),.pointer (some ⟨gl,0,none⟩)] w λ e w'=>e=.returned (.tuple #[])/\∃(x:List UInt8) (p:Int) (v':Value) (F':List Nat),CB w' gl 40 [v']/\((m0.go λ s=>.ok () s.drop).go nameR).is (x,p)/\DvAt w' (dvStrs (l++[x])) v' F'/\F'.Nodup/\(∀g∈F',g∈F∨w.heap.size<=g)/\PS w' b K V D ((m0.go λ s=>.ok () s.drop).go nameR).void/\Ch (λ j=>j=b∨j=gl∨j∈F) w w':=by
 have hglw0:=hcell0.lt
 have hbF:b∉F:=λ hb=>by have:=hFb b hb;omega
 have hgpF:¬(gp=b∨gp∈F):=λ h=>h.elim (λ e=>by omega) hgpF';have HC1:=h_ (stake_any w b K V D m0 h hk0);have HROW:=h_ hrow';have HCELL:=h_ hcell0;have HGP:=h_ hgp0;have y0:=hgp0.c 0 rfl
 obtain ⟨m,hmm⟩:∃m,(m0.go λ s=>(.ok () s.drop:Rs Unit))=m:=⟨_,rfl⟩
 rw [hmm] at HC1 ⊢;clear hcell0 hgp0 hrow' hmm hk0 h;go_enter Tryz.func307,Tryz.ntmps307;go_wp2_with fail;refine HC1.out.mono ?_;rintro e w2' ⟨t0,rfl,_,hp0,hm⟩;have hsz:=World.grownBy.size hm;have hrow0:=HROW.out.ch (Ch.of_mv hm) (λ g hg e=>by have e':g=b:=e;rw [e'] at hg;exact hbF hg);have hcell:=HCELL.out.mv hm (by omega);have hgp:=HGP.out.mv hm (by omega);have hs0:=stays_ps b K V D m;have hs:=stays_ps b K V D (m.go nameR).void
 obtain ⟨cs,hcs⟩:∃cs:List DV,(l.map λ s=>DV.v (txV s))=cs:=⟨_,rfl⟩
 obtain ⟨n,hnn⟩:∃n,l.length=n:=⟨_,rfl⟩
 have hE:∀x:List UInt8,dvStrs (l++[x])=.row 9 1 (n+1) (cs++[.v (txV x)]):=λ x=>by unfold dvStrs;rw [List.map_append,hcs,List.length_append,hnn];simp
 have hrow:DvAt w2' (.row 9 1 n cs) v F:=by rw [<-hcs,<-hnn];exact hrow0
 have hn:n<=1000000:=by omega
 have hFl:∀g∈F,g<w2'.heap.size/\b<g:=λ g hg=>⟨hrow.lt g hg,hFb g hg⟩
 have hglw:=hcell.lt;have hCH:∀W,Ch (λ j=>j=b∨j=gl∨j∈F) w2' W->Ch (λ j=>j=b∨j=gl∨j∈F) w W:=λ W hc=>((Ch.of_mv hm).mono (λ _ _ h=>.inl h)).trans hc;have hSZ:∀(g:Nat) (F':List Nat),(∀g∈F',g∈F∨w2'.heap.size<=g)->g∈F'->g∈F∨w.heap.size<=g:=λ g F' h hg=>(h g hg).imp id (λ h=>by omega)
 obtain ⟨T0,hT0⟩:∃T0,tkV t0=T0:=⟨_,rfl⟩
 rw [hT0];clear hT0 y0 HC1;go_upto_region 1 with fail
 refine region_mix _ _ _ (by kernel_rfl) 8 rfl (by kernel_rfl) (by kernel_rfl) (λ i=>match i with|2=>[1]|3=>[2]|4=>[3]|5=>[4]|6=>[5]|7=>[0,6]|8=>[7]|_=>[]) (by kernel_rfl) (by kernel_rfl)
  (λ i=>match i with|4=>some 0|6=>some 1|7=>some 2|8=>some 3|_=>none) (λ _=>false) 3 rfl (by kernel_rfl)
  (tgF b v) ?_ (λ p vals W=>BIv w2' b gl 40 [v] (λ W=>PS W b K V D m) (λ W=>PS W b K V D (m.go nameR).void) 9 1 n cs v F (λ ds=>∃x:List UInt8,ds=[.v (txV x)]/\∃p,(m.go nameR).is (x,p)) (λ u ys=>∃t':Tk,u=tkV t'/\ys=[txV t'.text]) 4 6 7 p vals W)
  (λ _ wr=>BFin w2' b gl 40 [v] 0 (λ W=>PS W b K V D (m.go nameR).void) 9 1 n cs F (λ ds=>∃x:List UInt8,ds=[.v (txV x)]/\∃p,(m.go nameR).is (x,p)) wr)
  (λ p vals vals' W hl hI=>hI.loc (hl _ (.inl rfl)) (hl _ (.inl rfl)) (hl _ (.inl rfl))) (BIv.zero hs0 hp0 hrow hcell) ?_ ?_ ?_ ?_ ?_
 ·intro j vals vals' u hext hF
  have hk:∀z:Value,vals 4=some z->vals' 4=some z:=λ z hz=>by rw [hext 4 (by rw [hz];simp)];exact hz
  unfold tgF at hF ⊢
  split at hF
  ·exact hF
  ·exact hF
  ·exact hF
  ·exact hF
  ·exact hF
  ·obtain ⟨t',h1,h2⟩:=hF;exact ⟨t',hk _ h1,h2⟩
  ·exact hF
  ·trivial
 ·intro i o hi hrk hal ho a vals w p hpN hI hbase hdep
  have hi':i=0∨i=1∨i=2∨i=3∨i=4∨i=5∨i=6∨i=7:=by omega
  rcases hi' with rfl|rfl|rfl|rfl|rfl|rfl|rfl|rfl
  ·have hp:a.tmps[1]?.getD undef=Value.pointer (some ⟨gl,0,none⟩):=ev_get2 (hbase 1 (by kernel_rfl));have y0:=hI.cell.c 0 rfl;simp only [t_,z_,j_] at ho;subst ho;unfold Oper.wp;go_simp;exact ⟨_,rfl,rfl,rfl⟩
  ·have hp:a.tmps[0]?.getD undef=Value.pointer (some ⟨gp,0,none⟩):=ev_get2 (hbase 0 (by kernel_rfl));have y0:=(hgp.ch hI.ch hgpF).c 0 rfl;simp only [t_,s_,z_,j_] at ho;subst ho;unfold Oper.wp;go_simp;exact ⟨_,rfl,rfl,rfl⟩
  ·have h1:a.tmps[7]?.getD undef=Value.pointer (some ⟨b,0,none⟩):=ev_get2 (show a.eval (.tmp 7)=Value.pointer (some ⟨b,0,none⟩) from (hdep 1 (by simp)).1);simp only [t_,s_,z_,j_] at ho;subst ho;unfold Oper.wp;go_simp;exact ⟨_,rfl,rfl,rfl⟩
  ·have h2:a.tmps[8]?.getD undef=Value.pointer (some ⟨b,0,none⟩):=ev_get2 (show a.eval (.tmp 8)=Value.pointer (some ⟨b,0,none⟩) from (hdep 2 (by simp)).1);simp only [t_,s_,z_,j_] at ho;subst ho;unfold Oper.wp;go_simp;exact ⟨_,rfl,rfl,rfl⟩
  ·cases hrk
  ·obtain ⟨t',h4⟩:=(hdep 4 (by simp)).1
   have hvv:vals 4=some (tkV t'):=by rw [(hdep 4 (by simp)).2];exact congrArg some h4
   replace h4:a.tmps[10]?.getD undef=tkV t':=ev_get2 h4
   obtain ⟨Y,hY⟩:∃Y,txV t'.text=.string Y:=⟨_,rfl⟩
   have hR:tgF b v 5 vals (.string Y):=⟨t',hvv,hY.symm⟩
   unfold tkV at h4;rw [hY] at h4
   have hfl:∀w,(Instr.field 131 (.agg #[.int .i64 t'.kind,.string Y,.int .i64 t'.num,.int .i64 t'.at_]) 1).run Tryz.prog w=.ok (.string Y) w:=λ w=>by kernel_rfl
   simp only [t_,s_,z_,j_] at ho;subst ho;unfold Oper.wp;go_simp;exact ⟨_,rfl,hR,rfl⟩
  ·cases hrk
  ·cases hrk
 ·intro i o hi hrk hal;cases hal
 ·intro i o r' hi hrk ho a vals w2 hI hbase hdep hv hcl
  have hi':i=0∨i=1∨i=2∨i=3∨i=4∨i=5∨i=6∨i=7:=by omega
  rcases hi' with rfl|rfl|rfl|rfl|rfl|rfl|rfl|rfl
  ·cases hrk
  ·cases hrk
  ·cases hrk
  ·cases hrk
  ·obtain rfl:r'=0:=by injection hrk with hrk;exact hrk.symm
   have h3:a.tmps[9]?.getD undef=Value.pointer (some ⟨b,0,none⟩):=ev_get2 (show a.eval (.tmp 9)=Value.pointer (some ⟨b,0,none⟩) from (hdep 3 (by simp)).1);have HC:=sname_any w2 b K V D m (hI.p0 rfl);simp only [t_,s_,z_,j_] at ho;subst ho;unfold Oper.wp;go_simp;refine HC.mono ?_;rintro e w' ⟨t',rfl,his,hp,hm⟩;exact ⟨_,rfl,⟨t',rfl⟩,hI.call (u:=tkV t') (ys:=[txV t'.text]) ⟨t',rfl,rfl⟩ ⟨t'.text,rfl,t'.at_,his⟩ (Rep.v rfl (Rep.nil _ _)) rfl hp hm (by omega) hbF⟩
  ·cases hrk
  ·obtain rfl:r'=1:=by injection hrk with hrk;exact hrk.symm
   obtain ⟨u,ys,c1,⟨t',rfl,rfl⟩,hl,hIb⟩:=hI.build hs (by decide);obtain ⟨t2,hv5,h5⟩:=(hdep 5 (by simp)).1;rw [c1] at hv5;have htt:=tk_inj hv5;subst htt;replace h5:a.tmps[11]?.getD undef=_:=ev_get2 h5;unfold txV at h5 hIb;simp only [t_,s_,z_,j_] at ho;subst ho;unfold Oper.wp;go_simp;exact ⟨_,rfl,⟨_,rfl⟩,hIb⟩
  ·obtain rfl:r'=2:=by injection hrk with hrk;exact hrk.symm
   have h0:a.eval (.tmp 6)=v:=(hdep 0 (by simp)).1;obtain ⟨gs,h6⟩:=(hdep 6 (by simp)).1
   have hv3:vals 6=some (.slice (some ⟨gs,0,none⟩) 1 1):=by rw [(hdep 6 (by simp)).2];exact congrArg some h6
   replace h6:a.eval (.tmp 12)=_:=h6;obtain ⟨v',w',hr,hI'⟩:=hI.app Tryz.prog 40 40 _ _ infoStr7 Tryz.underlying40 rfl (by decide) (by decide) hv3 hn hFn hFl hglF hs;simp only [t_,s_,z_,j_] at ho;subst ho;unfold Oper.wp;simp only [execOp,resolve,invoke,builtin,Sem.run_bind,Sem.run_pure,Result.andThen_ok,List.map_toArray,List.map_cons,List.map_nil,h0,h6,hr];exact ⟨_,rfl,trivial,hI'⟩
 ·intro o ho a vals w2 hI hbase hdep hall hF;have hp:a.tmps[1]?.getD undef=Value.pointer (some ⟨gl,0,none⟩):=ev_get2 (hbase 1 (by kernel_rfl));obtain ⟨v',hva⟩:=x_ (Option.isSome_iff_ne_none.2 (hall 7 (by omega)));have hv4:=(hdep 7 (by simp)).2;rw [hva] at hv4;have h7:a.tmps[13]?.getD undef=v':=ev_get2 (show a.eval (.tmp 13)=v' from (Option.some.inj hv4).symm);have y0:=hI.cell.c 0 rfl;have f0:=hI.cell.fr 0;obtain ⟨_,_,_,c1,_,c3,_,_,_⟩:=hI.p3 (n_ _);rw [hva] at c1;obtain rfl:=Option.some.inj c1;obtain ⟨A',c',hsl,_,_⟩:=c3.slice;subst hsl;have hfin:=hI.fin hs hva 0 hbg hglF hglw;simp only [t_,s_,z_,j_] at ho;subst ho;unfold Oper.wp;go_simp;exact ⟨.tuple #[],rfl,λ _ _=>hfin⟩
 ·intro vals W hF hall;obtain ⟨v0,h0⟩:=x_ (hall 0 (by omega));obtain ⟨v1,h1⟩:=x_ (hall 1 (by omega));obtain ⟨v2,h2⟩:=x_ (hall 2 (by omega));obtain ⟨v3,h3⟩:=x_ (hall 3 (by omega));obtain ⟨v4,h4⟩:=x_ (hall 4 (by omega));obtain ⟨v5,h5⟩:=x_ (hall 5 (by omega));obtain ⟨v6,h6⟩:=x_ (hall 6 (by omega));obtain ⟨v7,h7⟩:=x_ (hall 7 (by omega));obtain ⟨v8,h8⟩:=x_ (hall 8 (by omega));simp only [puts,put1,show List.range (8+1)=[0,1,2,3,4,5,6,7,8] from rfl,List.foldl_cons,List.foldl_nil,h0,h1,h2,h3,h4,h5,h6,h7,h8,t_,s_,z_,Act.put,u_,v_,k_];clear h0 h1 h2 h3 h4 h5 h6 h7 h8 hall;go_wp2_with fail;go_end0;obtain ⟨_,v',F',a1,⟨x,rfl,p,a2⟩,a3,a4,a5,a6,a7⟩:=hF;exact ⟨rfl,x,p,v',F',a1,a2,by rw [hE];exact a3,a4,λ g hg=>hSZ g F' a5 hg,a6,hCH _ a7⟩
def tgS (l:List (List UInt8)) (s:Ss):Rs (List (List UInt8)×Bool):=if isAt 4 [44] s.ts=true then (nameR s.drop).bind λ x s'=>.ok (l++[x.1],true) s' else .ok (l,false) s
theorem tgS_steps (l:List (List UInt8)) (s:Ss):Steps s (tgS l s):=by
 unfold tgS
 split
 ·exact .of (((Takes.bind (nameR_takes _) λ _ _ _=>Takes.ok _ _).mono (by omega)).dropped)
 ·exact .stop _ _
theorem tgS_goes:Goes tgS:=goes_of tgS_steps
theorem tgt_it:∀(f:Nat) (l:List (List UInt8)) (s:Ss),s.ts.length<f->itF tgtS f l s=(nameR s).bind λ x s1=>It tgS (l++[x.1]) s1
 |0,_,_,h=>by omega
 |f+1,l,s,h=>by
  rw [itF];unfold tgtS
  cases e:nameR s with
  |out=>rfl
  |bad c p=>rfl
  |ok x s1 =>
   show Rs.bind (if isAt 4 [44] s1.ts=true then _ else _) _=It tgS (l++[x.1]) s1;rw [It_eq tgS_goes];unfold tgS;have h1:=nameR_takes s _ _ e
   by_cases hc:isAt 4 [44] s1.ts=true
   ·rw [if_pos hc,if_pos hc];show itF tgtS f (l++[x.1]) s1.drop=_;have h2:=drop_le s1;rw [tgt_it f _ _ (by omega)]
    cases nameR s1.drop <;> rfl
   ·rw [if_neg hc,if_neg hc];rfl
theorem tgt_eq (s:Ss):It tgtS [] s=(nameR s).bind λ x s1=>It tgS [x.1] s1:=tgt_it _ [] s (Nat.lt_succ_self _)
structure TgIv (w:World) (b:Nat) (K:Kx) (V D:Int) (gl gp:Nat) (l:List (List UInt8)) (m:Rs Unit) (W:World):Prop where
 ps:PS W b K V D m
 row:∃v F,CB W gl 40 [v]/\DvAt W (dvStrs l) v F/\F.Nodup/\∀g∈F,g≠w.heap.size/\g≠gl/\g≠gp/\gp<=g
 ch:Ch (λ j=>j=b∨gp<j) w W
 tx:CB W w.heap.size 9 ([([44]:List UInt8)].map txV)
 gp:CB W gp 176 [.pointer (some ⟨b,0,none⟩)]
 len:(∀s,m=.ok () s->l.length+s.ts.length<=K.n+1)/\l.length<=K.n+2
theorem TgIv.below {w:World} {b:Nat} {K:Kx} {V D:Int} {gl gp:Nat} {l:List (List UInt8)} {m:Rs Unit} {W W':World} (h:TgIv w b K V D gl gp l m W) (hb:Below W.heap.size W W'):TgIv w b K V D gl gp l m W':=by
 obtain ⟨v,F,h1,h2,h3,h4⟩:=h.row;exact ⟨h.ps.below hb,⟨v,F,h1.below hb,h2.below hb,h3,h4⟩,h.ch.trans (Ch.of_below hb),h.tx.below hb,h.gp.below hb,h.len⟩
theorem TgIv.step {w:World} {b:Nat} {K:Kx} {V D:Int} {gl gp:Nat} {l:List (List UInt8)} {s:Ss} {W:World} (h:TgIv w b K V D gl gp l (.ok () s) W) (hc:isAt 4 [44] s.ts=true) (hbl:b<gl) (hbp:b<gp) (hne:gp<gl) (hlw:gl<w.heap.size) :
  Calls Tryz.prog 307 #[.pointer (some ⟨gp,0,none⟩),.pointer (some ⟨gl,0,none⟩)] W λ e w'=>e=.returned (.tuple #[])/\∃y,(∀z bb s',tgS l s=.ok (z,bb) s'->z=y)/\TgIv w b K V D gl gp y (tgS l s).void w':=by
 obtain ⟨v,F,h1,h2,h3,h4⟩:=h.row
 refine (stgt_one W b K V D _ gl gp v l F h.ps (λ s' e=>by
  obtain rfl:=(Rs.ok.inj e).2
  exact isAt_kind hc (by decide)) h1 h.gp h2 h3 (λ g hg=>by have:=(h4 g hg).2.2.2;omega) hbl hbp (λ hg=>(h4 gl hg).2.1 rfl) (λ hg=>(h4 gp hg).2.2.1 rfl) (by have:=h.len.2;have:=h.ps.ok.n;omega)).mono ?_
 rintro e w' ⟨rfl,x,p,v',F',c1,c2,c3,c4,c5,c6,c7⟩;have hW:=h.ch.size
 have hact:tgS l s=(nameR s.drop).bind λ x s'=>.ok (l++[x.1],true) s':=by unfold tgS;rw [if_pos hc]
 replace c2:(nameR s.drop).is (x,p):=c2;replace c6:PS w' b K V D (nameR s.drop).void:=c6;refine ⟨rfl,l++[x],λ z bb s' e=>?_,?_,⟨v',F',c1,c3,c4,λ g hg=>?_⟩,h.ch.trans2 c7 (λ j hj hs=>?_),h.tx.ch c7 ?_,h.gp.ch c7 ?_,λ s' e=>?_,?_⟩
 ·rw [hact] at e;obtain ⟨y,s1,e1,e2⟩:=Rs.some e;have:=c2 y s1 e1;rw [this] at e2;exact (congrArg Prod.fst (Rs.ok.inj e2).1).symm
 ·rw [hact];have:=bind_void (nameR s.drop) (λ x:List UInt8×Int=>(l++[x.1],true));rw [this];exact c6
 ·rcases c5 g hg with h'|h'
  ·exact h4 g h'
  ·have:=h.tx.lt;have:=h1.lt;exact ⟨by omega,by omega,by omega,by omega⟩
 ·rcases hs with hs|hs|hs
  ·exact .inl hs
  ·exact .inr (by omega)
  ·have:=h4 j hs;exact .inr (by omega)
 ·rintro (e|e|e)
  ·have:=h.ps.blt;omega
  ·omega
  ·exact (h4 _ e).1 rfl
 ·rintro (e|e|e)
  ·omega
  ·omega
  ·exact (h4 _ e).2.2.1 rfl
 ·have hvo:(tgS l s).void=(nameR s.drop).void:=by rw [hact];exact bind_void (nameR s.drop) (λ x:List UInt8×Int=>(l++[x.1],true))
  rw [hvo] at e
  cases e1:nameR s.drop with
  |out=>rw [e1] at e;cases e
  |bad c p=>rw [e1] at e;cases e
  |ok y s1 =>
   rw [e1] at e;have:=(Rs.ok.inj e).2;subst this;have:=nameR_takes s.drop _ _ e1;have:=drop_le s;have:=h.len.1 s rfl;rw [List.length_append,List.length_singleton];omega
 ·have:=h.len.1 s rfl;obtain ⟨t,r,hs⟩:=isAt_cons hc;rw [hs] at this;simp only [List.length_cons] at this;rw [List.length_append,List.length_singleton];omega
theorem stargets_any (w:World) (b:Nat) (K:Kx) (V D:Int) (s:Ss) (h:PS w b K V D (.ok () s)) (hk:kindOf s.ts≠5) :
  Calls Tryz.prog 267 #[.pointer (some ⟨b,0,none⟩)] w λ e w'=>∃l v,e=.returned v/\(It tgtS [] s.drop).is l/\Rep w' w.heap.size [dvStrs l] [v]/\PS w' b K V D (It tgtS [] s.drop).void/\Mv b w w':=by
 obtain ⟨gp,hgp⟩:∃g,g=w.heap.size:=⟨_,rfl⟩
 obtain ⟨W0,hW0⟩:∃W0,W0=w.alloc (.cells #[.pointer (some ⟨b,0,none⟩)] 176):=⟨_,rfl⟩
 have HGP:Hid (CB W0 gp 176 [.pointer (some ⟨b,0,none⟩)]):=by rw [hW0,hgp];exact CB.new w _ [.pointer (some ⟨b,0,none⟩)]
 have HB0:Hid (Below w.heap.size w W0):=by rw [hW0];exact (b_ _ w).alloc (n_ _) _
 have hbw:=h.blt
 have hbp:b<gp:=by omega
 have hgpw:w.heap.size<=gp:=by omega
 have hgpW:=HGP.out.lt;have hW0s:=HB0.out.size;have HP:=h_ h
 have HC1:=h_ (stake_any W0 b K V D _ (h.below HB0.out) (λ s' e=>by
  obtain rfl:=(Rs.ok.inj e).2
  exact hk))
 have y0:=HGP.out.c 0 rfl;clear h hk;go_enter Tryz.func267,Tryz.ntmps267;go_upto_region 1 with fail;rw [<-hW0,<-hgp];clear hW0 hgp;go_wp2_with fail;refine HC1.out.mono ?_;rintro e w1 ⟨t0,rfl,_,hp1,hm1⟩
 obtain ⟨T0,hT0⟩:∃T0,tkV t0=T0:=⟨_,rfl⟩
 rw [hT0];have hs1:=World.grownBy.size hm1;have HGP1:=h_ (HGP.out.mv hm1 (by omega));have HM1:=h_ ((Mv.of b HB0.out).trans hm1);have HC2:=h_ (sname_any w1 b K V D _ hp1);clear hT0 hp1 hm1 HC1 y0;have y0:=HGP1.out.c 0 rfl;go_wp2_with fail;refine HC2.out.mono ?_;rintro e w2 ⟨t,rfl,his,hp2,hm2⟩
 obtain ⟨X,hX⟩:∃X,txV t.text=.string X:=⟨_,rfl⟩
 unfold tkV;rw [hX]
 have hfl:∀w,(Instr.field 131 (.agg #[.int .i64 t.kind,.string X,.int .i64 t.num,.int .i64 t.at_]) 1).run Tryz.prog w=.ok (.string X) w:=λ w=>by kernel_rfl
 have hs2:=World.grownBy.size hm2
 obtain ⟨gr,hgr⟩:∃g,g=w2.heap.size:=⟨_,rfl⟩
 obtain ⟨gl,hgl⟩:∃g,g=w2.heap.size+1:=⟨_,rfl⟩
 obtain ⟨W3,hW3⟩:∃W3,W3=(w2.alloc (.cells #[.string X] 9)).alloc (.cells #[.slice (some ⟨gr,0,none⟩) 1 1] 40):=⟨_,rfl⟩
 have hsz:(w2.alloc (.cells #[.string X] 9)).heap.size=w2.heap.size+1:=by simp
 have HGR:Hid (CB W3 gr 9 [.string X]):=by rw [hW3,hgr];exact (CB.new w2 _ [.string X]).alloc _
 have HGL:Hid (CB W3 gl 40 [.slice (some ⟨gr,0,none⟩) 1 1]):=by rw [hW3,hgl,<-hsz];exact CB.new _ _ [_]
 have hb3:Below w2.heap.size w2 W3:=by rw [hW3];exact ((b_ _ w2).alloc (n_ _) _).alloc (by simp) _
 have HGP3:=h_ ((HGP1.out.mv hm2 (by omega)).below hb3);have HM3:=h_ ((HM1.out.trans hm2).trans (Mv.of b hb3))
 obtain ⟨m3,hm3⟩:∃m3,(nameR s.drop).void=m3:=⟨_,rfl⟩
 replace his:(nameR s.drop).is (t.text,t.at_):=his
 have HP3:Hid (PS W3 b K V D m3):=by rw [<-hm3];exact hp2.below hb3
 have HIS:=h_ his;have HX:=h_ hX
 have HRW:Hid (DvAt W3 (dvStrs [t.text]) (.slice (some ⟨gr,0,none⟩) 1 1) [gr]):=by
  unfold dvStrs DvAt;have hgr3:=HGR.out;refine ⟨[.string X],[],⟨rfl,.inr ⟨gr,1,#[.string X],rfl,Nat.zero_le _,hgr3,n_ _,(by decide:1<=maxLen),rfl,rfl⟩⟩,rfl,?_⟩;show DvsAt W3 [.v (txV t.text)] [.string X] [];rw [HX.out];exact DvsAt.v rfl (DvsAt.nil _)
 have HEQ:Hid (It tgtS [] s.drop=m3.go (It tgS [t.text])):=by
  show _=_;rw [tgt_eq,Rs.seq HIS.out,hm3]
 have HLEN:Hid (∀s',m3=.ok () s'->1+s'.ts.length<=K.n+1):=λ s' e=>by
  have:=(show PS W3 b K V D (.ok () s') by rw [<-e];exact HP3.out).left_le;omega
 have hgrl:gr<gl:=by omega
 have hgpl:gp<gl:=by omega
 have hgpr:gp<gr:=by omega
 have hglw:=HGL.out.lt;have hsz3:=World.grownBy.size HM3.out;clear hfl
 have hfl:∀w,(Instr.field 131 (.agg #[.int .i64 t.kind,.string X,.int .i64 t.num,.int .i64 t.at_]) 1).run Tryz.prog w=.ok (.string X) w:=λ w=>by kernel_rfl
 rw [hgr] at hW3;clear hX his hp2 hm2 hb3 HC2 hm3 y0;go_upto_region 3 with fail;rw [<-hW3,<-hgl,<-hgr];clear hW3 hgl hgr hsz hfl
 have hE:∀args w,(callFunc 307 args).run Tryz.prog w=.ok (.enter 307 args) w:=λ _ _=>by kernel_rfl
 have HC:Hid (∀W,W=W3.alloc (.cells #[.string ⟨#[44]⟩] 9)->Calls Tryz.prog 112 #[.pointer (some ⟨b,0,none⟩),.func (.func 307) #[] #[.pointer (some ⟨gp,0,none⟩),.pointer (some ⟨gl,0,none⟩)],.slice (some ⟨W3.heap.size,0,none⟩) 1 1] W λ e w'=>e=.returned (.tuple #[])/\∃y,(m3.go (It tgS [t.text])).is y/\TgIv W3 b K V D gl gp y (m3.go (It tgS [t.text])).void w'):=by
  rintro W rfl;have hb:Below W3.heap.size W3 (W3.alloc (.cells #[.string ⟨#[44]⟩] 9)):=(b_ _ W3).alloc (n_ _) _;refine each_it b K D W3.heap.size [[44]] _ _ hE tgS tgS_goes (TgIv W3 b K V D gl gp) (λ x m w hi=>⟨V,hi.ps⟩) (λ x m w hi=>hi.tx) (λ x m w w' hi hb=>hi.below hb) ?_ ?_ ?_ [t.text] m3 _ ?_ (by simp)
  ·intro x s t l hs hl hbg;rw [bgn_one (tells_sg (c:=44) (u:=[]) (by decide)) hs hl] at hbg;unfold tgS;rw [if_neg (by rw [hbg];decide)]
  ·intro x s y s' t l hs hl hbg e;rw [bgn_one (tells_sg (c:=44) (u:=[]) (by decide)) hs hl] at hbg;unfold tgS at e;rw [if_pos hbg] at e;obtain ⟨_,_,_,e2⟩:=Rs.some e;exact absurd (congrArg Prod.snd (Rs.ok.inj e2).1) (by simp)
  ·intro x s W hi hbg;obtain ⟨t,l,hs,hl,_⟩:=hi.ps.head rfl;rw [bgn_one (tells_sg (c:=44) (u:=[]) (by decide)) hs hl] at hbg;exact hi.step hbg (by omega) hbp hgpl hglw
  ·refine ⟨HP3.out.below hb,⟨_,[gr],HGL.out.below hb,HRW.out.below hb,by simp,λ g hg=>?_⟩,Ch.of_below hb,CB.new W3 _ _,HGP3.out.below hb,HLEN.out,by show 1<=_;omega⟩
   have e:g=gr:=by simpa using hg
   subst e;exact ⟨by omega,by omega,by omega,by omega⟩
 have y0:=HGP3.out.c 0 rfl;clear hE;go_wp2_with fail;refine (HC.out _ rfl).mono ?_;rintro e w4 ⟨rfl,l,his,hiv⟩;obtain ⟨v,F,c1,c2,c3,c4⟩:=hiv.row;have HIV:=h_ hiv;have HIS4:=h_ his;have HRR:=h_ (And.intro c2 (And.intro c3 c4));have z0:=c1.c 0 rfl;clear hiv his HC c1 c2 c3 c4 y0;go_wp2_with fail;go_ret;obtain ⟨c2,c3,c4⟩:=HRR.out;refine ⟨l,v,rfl,by rw [HEQ.out];exact HIS4.out,⟨F++[],DvsAt.cons c2 (DvsAt.nil _),by simpa using c3,λ g hg=>?_⟩,by rw [HEQ.out];exact HIV.out.ps,?_⟩
 ·have:=(c4 g (by simpa using hg)).2.2.2;omega
 ·have h1:Ch (λ j=>j=b∨w.heap.size<=j) w W3:=(Ch.of_mv HM3.out).mono (λ _ _ h=>.inl h)
  have h2:Ch (λ j=>j=b∨w.heap.size<=j) w w4:=h1.trans2 HIV.out.ch (λ j hj hs=>by
   rcases hs with hs|hs
   ·exact .inl hs
   ·exact .inr (by omega))
  exact h2.mv (λ k hk hs=>by
   rcases hs with hs|hs
   ·exact hs
   ·omega)
def zMove:List Value:=[.int .i64 0,.string ⟨#[]⟩,.int .i64 0,.bool false,.int .i64 0,.int .i64 0,.string ⟨#[]⟩,.int .i64 0,.slice none 0 0,.int .i64 0,.slice none 0 0,.slice none 0 0,.int .i64 0]
def mvC (x:SyMove) (v:EV) (va vt:Value):List Value:=[.int .i64 x.kind,txV x.event,.int .i64 x.wait,.bool x.guarded,.int .i64 v.kind,.int .i64 v.num,.string v.name,.int .i64 v.op,.slice v.A v.len v.cap,.int .i64 v.p,va,vt,.int .i64 x.at_]
theorem move_eq {s:Ss} {t:Tk} {l:List Tk} (hs:s.ts=t::l) (hf:Fits s):moveR s=(cntM t.at_ s.drop).go λ s0=>(evR (moveK s.ts) s0).bind λ e s1=>(waitR (moveK s.ts) s1).bind λ w s2=>(guardR s2).bind λ g s3=>(actsR s3).bind λ l s4=>(tgtR s4).bind λ q s5=>(mustR 4 [59] s5).bind λ _ s6=>.ok ⟨moveK s.ts,e,w,g.isSome,g,l,q,t.at_⟩ s6:=by
 unfold moveR
 have ha:atOf s.ts=t.at_:=by rw [hs];rfl
 unfold cntM;show (if s.m=200 then _ else _)=Rs.go (if 200<s.m+1 then _ else _) _
 by_cases h4:s.m=200
 ·rw [if_pos h4,if_pos (by omega)];rw [hs];rfl
 ·rw [if_neg h4,if_neg (by have:=hf.2.1;omega),ha];rfl
theorem kd_move {s:Ss} {t:Tk} {l:List Tk} (hs:s.ts=t::l) (ht:LexT t) (hk:moveK s.ts≠0):t.kind≠5/\((moveK s.ts=1/\t.text=wOn)∨(moveK s.ts=2/\t.text=wAlways)∨(moveK s.ts=3/\t.text=wAfter)):=by
 have e1:∀u,isKw u=true->isTk 2 u t=decide (t.text=u):=λ u hu=>tells_kw hu t ht;unfold moveK at hk ⊢;rw [hs] at hk ⊢;have k1:isAt 2 wOn (t::l)=decide (t.text=wOn):=e1 _ (by decide);have k2:isAt 2 wAlways (t::l)=decide (t.text=wAlways):=e1 _ (by decide);have k3:isAt 2 wAfter (t::l)=decide (t.text=wAfter):=e1 _ (by decide)
 have h5:t.kind≠5:=by
  intro h5
  have n:∀u,isAt 2 u (t::l)=false:=λ u=>by show isTk 2 u t=false;unfold isTk;rw [h5];rfl
  simp only [wordAt,n] at hk;simp at hk
 refine ⟨h5,?_⟩;simp only [wordAt,k1,k2,k3,decide_eq_true_eq] at hk ⊢
 by_cases h1:t.text=wOn
 ·rw [if_pos h1];exact .inl ⟨rfl,h1⟩
 ·rw [if_neg h1] at hk ⊢
  by_cases h2:t.text=wAlways
  ·rw [if_pos h2];exact .inr (.inl ⟨rfl,h2⟩)
  ·rw [if_neg h2] at hk ⊢
   by_cases h3:t.text=wAfter
   ·rw [if_pos h3];exact .inr (.inr ⟨rfl,h3⟩)
   ·rw [if_neg h3] at hk;exact absurd rfl hk
structure MI (w:World) (b g0 g4:Nat) (K:Kx) (V D:Int) (m:Rs Unit) (x:SyMove) (v:EV) (va vt:Value) (W:World):Prop where
 ps:PS W b K V D m
 c4:CB W g4 57 (mvC x v va vt)
 c0:CB W g0 57 zMove
 mv:Mv b w W
theorem MI.below {w W W':World} {b g0 g4:Nat} {K:Kx} {V D:Int} {m:Rs Unit} {x:SyMove} {v:EV} {va vt:Value} (h:MI w b g0 g4 K V D m x v va vt W) (hb:Below W.heap.size W W'):MI w b g0 g4 K V D m x v va vt W' :=
 ⟨h.ps.below hb,h.c4.below hb,h.c0.below hb,h.mv.trans (Mv.of b hb)⟩
theorem PS.tell_one {w:World} {b:Nat} {K:Kx} {V D:Int} {m:Rs Unit} (h:PS w b K V D m) {k:Int} {u:List UInt8} (hk:Tells k u):m.tell (bgn [u])=m.tell λ s=>isAt k u s.ts:=by
 cases m with
 |out=>rfl
 |bad c p=>rfl
 |ok x s =>
  obtain ⟨t,l,hs,hl,_,_⟩:=h.head rfl;exact bgn_one hk hs hl
theorem Rep.slice {w:World} {base:Nat} {e:TypeId} {k n:Nat} {cs:List DV} {x:Value} (h:Rep w base [.row e k n cs] [x]):∃A m c,x=.slice A m c:=by
 obtain ⟨F,h1,_⟩:=h;unfold DvsAt at h1;obtain ⟨y,ys,F1,F2,e1,_,h2,_⟩:=h1;obtain ⟨A,c,h3,_⟩:=h2.slice
 have:x=y:=by injection e1
 exact ⟨A,n,c,this.trans h3⟩
theorem Rep.at_ {w:World} {base:Nat} {ds1 ds2:List DV} {xs1 xs2:List Value} {e:TypeId} {k n:Nat} {cs:List DV} {x:Value} (h:Rep w base (ds1++.row e k n cs::ds2) (xs1++x::xs2)) (hl:xs1.length=ds1.length):∃A m c,x=.slice A m c:=by
 obtain ⟨F,h1,_⟩:=h;obtain ⟨ys1,ys2,F1,F2,e1,_,h2,h3⟩:=h1.cut;have hl2:=h2.len;have h4:=List.append_inj e1 (by omega);unfold DvsAt at h3;obtain ⟨y,ys,F3,F4,e2,_,h5,_⟩:=h3;rw [e2] at h4;obtain ⟨A,c,h6,_⟩:=h5.slice
 have:x=y:=by injection h4.2
 exact ⟨A,n,c,this.trans h6⟩
theorem Rep.slice2 {w:World} {base:Nat} {ds:List DV} {xs:List Value} {la:List SyAct} {lt:List (List UInt8)} {va vt:Value} (h:Rep w base ((ds++[dvActs true la])++[dvStrs lt]) ((xs++[va])++[vt])) (hl:xs.length=ds.length):∃A m c,va=.slice A m c:=by
 have h':Rep w base (ds++dvActs true la::[dvStrs lt]) (xs++va::[vt]):=by simpa using h
 exact Rep.at_ h' hl
theorem Rep.slice3 {w:World} {base:Nat} {ds:List DV} {xs:List Value} {la:List SyAct} {lt:List (List UInt8)} {va vt:Value} (h:Rep w base ((ds++[dvActs true la])++[dvStrs lt]) ((xs++[va])++[vt])) (hl:xs.length=ds.length):∃A m c,vt=.slice A m c :=
 Rep.at_ (ds2:=[]) (xs2:=[]) h (by simp [hl])
def evwR (k:Nat) (s:Ss):Rs (List UInt8×Int):=(evR k s).bind λ e s1=>(waitR k s1).bind λ w s2=>.ok (e,w) s2
theorem evw_bind {α:Type} (k:Nat) (s:Ss) (f:List UInt8->Int->Ss->Rs α):((evR k s).bind λ e s1=>(waitR k s1).bind λ w s2=>f e w s2)=(evwR k s).bind λ y s2=>f y.1 y.2 s2:=by
 unfold evwR;rw [Rs.assoc];refine Rs.congr λ e s1 _=>?_;rw [Rs.assoc];rfl
def zNode:List Value:=[.int .i64 0,.string ⟨#[]⟩,.string ⟨#[]⟩,.string ⟨#[]⟩,.slice none 0 0,.slice none 0 0,.slice none 0 0,.slice none 0 0,.int .i64 0]
def nNode (k:Int) (x:List UInt8) (p:Int):List Value:=[.int .i64 k,txV x,.string ⟨#[]⟩,.string ⟨#[]⟩,.slice none 0 0,.slice none 0 0,.slice none 0 0,.slice none 0 0,.int .i64 p]
theorem named_eq (d:Nat) {s:Ss} (hf:Fits s):namedR d s=(nameR s).bind λ x s1=>(cntN x.2 s1).bind λ _ s2=>if d=0 then .bad 21 x.2 else .ok x s2:=by
 unfold namedR nameR;have hn:=hf.1
 cases hs:s.ts with
 |nil=>rfl
 |cons t r =>
  simp only
  by_cases hk:t.kind=1
  ·rw [if_pos hk,if_pos hk];show _=(cntN t.at_ ⟨r,s.n,s.m,s.a⟩).bind _;unfold cntN;simp only
   by_cases h4:s.n=64
   ·rw [if_pos h4,if_pos (by omega)];rfl
   ·have h5:¬64<s.n+1:=by omega
    rw [if_neg h4,if_neg h5];rfl
  ·rw [if_neg hk,if_neg hk,wrongR_cons]
   split <;> rfl
theorem go_named {m:Rs Unit} (hm:∀s,m=.ok () s->Fits s) (d:Nat):m.go (namedR d)=(m.go nameR).bind λ x s1=>(cntN x.2 s1).bind λ _ s2=>if d=0 then .bad 21 x.2 else .ok x s2:=by
 cases m with
 |out=>rfl
 |bad c p=>rfl
 |ok u s=>exact named_eq d (hm s rfl)
theorem PS.fits {w:World} {b:Nat} {K:Kx} {V D:Int} {m:Rs Unit} (h:PS w b K V D m):∀s,m=.ok () s->Fits s:=λ s e=>by
 obtain ⟨_,_,_,_,_,_,hf⟩:=h.head e;exact hf
theorem snamed_any (w:World) (b:Nat) (K:Kx) (V D:Int) (m:Rs Unit) (h:PS w b K V D m) (kd:Int) (d:Nat) (hD:D=12-(d:Int)) (hd12:d<=12) :
  Calls Tryz.prog 109 #[.pointer (some ⟨b,0,none⟩),.int .i64 kd] w λ e w'=>∃(x:List UInt8) (p:Int),e=.returned (.agg (nNode kd x p).toArray)/\(m.go (namedR d)).is (x,p)/\PS w' b K V D (m.go (namedR d)).void/\Mv b w w':=by
 obtain ⟨g0,hg0⟩:∃g,g=w.heap.size:=⟨_,rfl⟩
 obtain ⟨W0,hW0⟩:∃W0,W0=w.alloc (.cells #[.int .i64 0,.string ⟨#[]⟩,.string ⟨#[]⟩,.string ⟨#[]⟩,.slice none 0 0,.slice none 0 0,.slice none 0 0,.slice none 0 0,.int .i64 0] 27):=⟨_,rfl⟩
 have HR:Hid (CB W0 g0 27 zNode):=by rw [hW0,hg0];exact CB.new w _ zNode
 have HB0:Hid (Below w.heap.size w W0):=by rw [hW0];exact (b_ _ w).alloc (n_ _) _
 have hbw:=h.blt
 have hg0w:w.heap.size<=g0:=by omega
 have hg0b:g0≠b:=by omega
 have HFIT:=h_ h.fits;have HC1:=h_ (sname_any W0 b K V D m (h.below HB0.out));have HDD:=h_ hD;clear h hD;go_enter Tryz.func109,Tryz.ntmps109;go_upto_region 1 with fail;rw [<-hW0,<-hg0];clear hW0 hg0;go_wp2_with fail;refine HC1.out.mono ?_;rintro e w1 ⟨t',rfl,his,hp,hm⟩
 obtain ⟨X,hX⟩:∃X,txV t'.text=.string X:=⟨_,rfl⟩
 have HXX:=h_ hX;unfold tkV;rw [hX]
 obtain ⟨g3,hg3⟩:∃g,g=w1.heap.size:=⟨_,rfl⟩
 obtain ⟨W1,hW1⟩:∃W1,W1=w1.alloc (.cells #[.int .i64 t'.kind,.string X,.int .i64 t'.num,.int .i64 t'.at_] 131):=⟨_,rfl⟩
 have hb1:Below w1.heap.size w1 W1:=by rw [hW1];exact (b_ _ w1).alloc (n_ _) _
 have HT1:Hid (TkB W1 g3 (.int .i64 t'.kind) (.string X) (.int .i64 t'.num) (.int .i64 t'.at_)):=by rw [hW1,hg3];exact TkB.new _ _ _ _ _
 have HM1:Hid (Mv b w W1):=((Mv.of b HB0.out).trans hm).trans (Mv.of b hb1);have HR1:=h_ ((HR.out.mv hm hg0b).below hb1);have HIS:=h_ his
 obtain ⟨m1,hm1⟩:∃m1,(m.go nameR).void=m1:=⟨_,rfl⟩
 rw [hm1] at hp;have HM1E:=h_ hm1;have HP1:=h_ (hp.below hb1)
 have hg3b:g3≠b:=by have:=hp.blt;omega
 have HTV:Hid (tkV t'=.agg #[.int .i64 t'.kind,.string X,.int .i64 t'.num,.int .i64 t'.at_]):=by show _=_;unfold tkV;rw [hX]
 have HCN:=h_ (λ n=>scount_N (W1.drewN n) b K V D m1 t' (HP1.out.below (drewN_below W1 n)));rw [HTV.out] at HCN;clear hp hm hb1 hX HC1 HR his hm1;go_upto_region 2 with fail;rw [<-hW1,<-hg3];clear hW1 hg3;have z0:=HT1.out.c0;have z1:=HT1.out.c1;have z2:=HT1.out.c2;have z3:=HT1.out.c3
 go_cut [] from 10 to 15 (λ wr=>Hid (PS wr b K V D (m1.go (cntN t'.at_)))/\Hid (Mv b W1 wr))
 case first =>
  go_region_with (go_at_call 170;refine (HCN.out _).mono ?_;rintro e w2 ⟨rfl,hp2,hm2⟩)
  all_goals
   go_wp2_with fail
   go_meet
   exact ⟨h_ hp2,h_ ((Mv.of b (drewN_below W1 _)).trans hm2)⟩
 case rest =>
 obtain ⟨HP2,HM12⟩:=hcut;have HT2:=h_ (HT1.out.mv HM12.out hg3b);have HR2:=h_ (HR1.out.mv HM12.out hg0b);have HM2:=h_ (HM1.out.trans HM12.out)
 obtain ⟨m2,hm2⟩:∃m2,m1.go (cntN t'.at_)=m2:=⟨_,rfl⟩
 rw [hm2] at HP2;have HM2E:=h_ hm2
 have HEQ:Hid (m.go (namedR d)=m2.go λ s2=>if d=0 then .bad 21 t'.at_ else .ok (t'.text,t'.at_) s2):=by
  show _=_;rw [go_named HFIT.out,Rs.seq HIS.out,HM1E.out,<-HM2E.out,go_go]
  cases m1 with
  |out=>rfl
  |bad c p=>rfl
  |ok x s1=>exact unit_bind _ _
 obtain ⟨w2,hw2⟩:∃w2,w2=wc:=⟨_,rfl⟩
 subst hw2;obtain ⟨r,hpr,hqr,hvr,hdr,hmr⟩:=HP2.out.out;have r8:=hpr.c8;rw [hdr] at r8;clear hm2 HM12 HT1 HR1 HM1 HP1 HCN z0 z1 z2 z3 hpr hqr hvr hdr hmr
 obtain ⟨dd,hdd⟩:∃dd,decide (D ≥ 12)=dd:=⟨_,rfl⟩
 have HDX:=h_ hdd;go_upto_if 20 with fail;clear hdd
 go_cut [] from 21 to 25 (λ wr=>Hid (PS wr b K V D (m.go (namedR d)).void)/\Hid ((m.go (namedR d)).is (t'.text,t'.at_))/\Hid (Mv b w2 wr))
 case first =>
  cases dd with
  |true =>
   have hd0:d=0:=by
    have h1:=HDD.out;have h2:D ≥ 12:=of_decide_eq_true HDX.out;omega
   have HCF:=h_ (λ n=>sfail_any (w2.drewN n) b K V D m2 (HP2.out.below (drewN_below w2 n)) 21 t' (by decide));rw [HTV.out] at HCF;have z0:=HT2.out.c0;have z1:=HT2.out.c1;have z2:=HT2.out.c2;have z3:=HT2.out.c3;have HD0:=h_ hd0;clear hd0;go_wp2_with fail
   go_region_with (go_at_call 171;refine (HCF.out _).mono ?_;rintro e w3 ⟨rfl,hp2,hm2⟩)
   all_goals
    go_wp2_with fail
    go_meet
    have e1:m.go (namedR d)=m2.go λ _=>.bad 21 t'.at_:=by
     rw [HEQ.out]
     congr 1
     funext s2
     rw [if_pos HD0.out]
    refine ⟨?_,?_,h_ ((Mv.of b (drewN_below w2 _)).trans hm2)⟩
    ·rw [e1]
     have e2:(m2.go λ _=>(.bad 21 t'.at_:Rs (List UInt8×Int))).void=m2.go λ _=>.bad 21 t'.at_:=by cases m2 <;> rfl
     rw [e2];exact hp2
    ·rw [e1];intro y s e
     cases m2 <;> cases e
  |false =>
   have hd0:¬d=0:=by
    have h1:=HDD.out;have h2:¬D ≥ 12:=of_decide_eq_false HDX.out;omega
   have HD0:=h_ hd0;clear hd0;go_wp2_with fail
   go_meet
   have e1:m.go (namedR d)=m2.go λ s2=>.ok (t'.text,t'.at_) s2:=by
    rw [HEQ.out]
    congr 1
    funext s2
    rw [if_neg HD0.out]
   refine ⟨?_,?_,Mv.refl b w2⟩
   ·rw [e1,go_ok_void];exact HP2.out
   ·show (m.go (namedR d)).is (t'.text,t'.at_);rw [e1];exact go_ok_is _ _
 case rest =>
 obtain ⟨HP3,HI3,HM3⟩:=hcut;have HT3:=h_ (HT2.out.mv HM3.out hg3b);have HR3:=HR2.out.mv HM3.out hg0b;unfold zNode at HR3;have HR4:=h_ HR3;have HMF:=h_ (HM2.out.trans HM3.out);have z1:=HT3.out.c1;have z3:=HT3.out.c3;clear HR3 HT2 HR2 HM2 HP2 HM3 r8;have f0:=HR4.out.fr 0;have q0:=HR4.out.c 0 rfl;have f1:=HR4.out.fr 1;have q1:=HR4.out.c 1 rfl;have f2:=HR4.out.fr 2;have q2:=HR4.out.c 2 rfl;have f3:=HR4.out.fr 3;have q3:=HR4.out.c 3 rfl;have f4:=HR4.out.fr 4;have q4:=HR4.out.c 4 rfl;have f5:=HR4.out.fr 5;have q5:=HR4.out.c 5 rfl;have f6:=HR4.out.fr 6;have q6:=HR4.out.c 6 rfl;have f7:=HR4.out.fr 7;have q7:=HR4.out.c 7 rfl;have f8:=HR4.out.fr 8;have q8:=HR4.out.c 8 rfl;go_wp2_with fail;have hres:=HR4.out.all [.int .i64 kd,.string X,.string ⟨#[]⟩,.string ⟨#[]⟩,.slice none 0 0,.slice none 0 0,.slice none 0 0,.slice none 0 0,.int .i64 t'.at_] rfl;have hmf:=sets_put HMF.out hg0w 0 [.int .i64 kd,.string X,.string ⟨#[]⟩,.string ⟨#[]⟩,.slice none 0 0,.slice none 0 0,.slice none 0 0,.slice none 0 0,.int .i64 t'.at_];have hpf:=HP3.out.sets (g:=g0) (by omega) 0 [.int .i64 kd,.string X,.string ⟨#[]⟩,.string ⟨#[]⟩,.slice none 0 0,.slice none 0 0,.slice none 0 0,.slice none 0 0,.int .i64 t'.at_];simp only [sets,Nat.reduceAdd] at hres hmf hpf;refine bodyPost_ret (resNode rfl _ rfl hres) rfl ?_;exact ⟨t'.text,t'.at_,by unfold nNode;rw [HXX.out],HI3.out,hpf,hmf⟩
def onceR (had:Bool) (s:Ss):Rs Unit:=if had=true then wrongR s.ts else .ok () s.drop
theorem sonce_any (w:World) (b:Nat) (K:Kx) (V D:Int) (s:Ss) (h:PS w b K V D (.ok () s)) (hk:kindOf s.ts≠5) (gs j:Nat) (T:TypeId) (vs:List Value) (had:Bool) (hc:CB w gs T vs) (hj:vs[j]?=some (.bool had)) (hbs:b<gs) :
  Calls Tryz.prog 221 #[.pointer (some ⟨b,0,none⟩),.pointer (some ⟨gs,j,none⟩)] w λ e w'=>e=.returned (.tuple #[])/\PS w' b K V D (onceR had s)/\CB w' gs T (vs.set j (.bool true))/\Ch (λ k=>k=b∨k=gs) w w':=by
 have c0:=hc.c j hj;have f0:=hc.fr j;have HC:=h_ hc;have HJ:=h_ hj
 cases had with
 |true =>
  have HC1:=h_ (sunfit_any w b K V D _ h);clear h hk hc hj;go_enter Tryz.func221,Tryz.ntmps221;go_wp2_with fail;refine HC1.out.mono ?_;rintro e w1 ⟨rfl,hp,hm⟩;have HC2:=h_ (HC.out.mv hm (by omega));have HM2:=h_ hm;replace hp:PS w1 b K V D (wrongR s.ts):=hp;have hmm:Mv gs w1 (w1.setCell ⟨gs,j,none⟩ (.bool true)):=(Mv.refl gs w1).set j _;have HP2:=h_ (hp.ch (Ch.of_mv hmm) (λ k e=>by have e':k=gs:=e;omega));have HMM:=h_ hmm
  have HC3:=h_ (stake_any _ b K V D _ HP2.out (λ s' e=>by
   obtain ⟨c,p,e'⟩:=wrong_bad' (α:=Unit) s.ts;rw [e'] at e
   cases e))
  clear hp hm hmm HC1 c0 f0;have c1:=HC2.out.c j HJ.out;have f1:=HC2.out.fr j;go_wp2_with fail;refine HC3.out.mono ?_;rintro e w3 ⟨t',rfl,_,hp,hm⟩
  obtain ⟨T',hT'⟩:∃T',tkV t'=T':=⟨_,rfl⟩
  rw [hT'];clear hT';have HP3:=h_ hp;have HM3:=h_ hm;clear hp hm HC3;go_wp2_with fail;go_end0;refine ⟨rfl,?_,(HC2.out.set j (.bool true)).mv HM3.out (by omega),?_⟩
  ·have:=HP3.out;unfold onceR;rw [if_pos rfl];obtain ⟨c,p,e'⟩:=wrong_bad' (α:=Unit) s.ts;rw [e'] at this ⊢;exact this
  ·exact (((Ch.of_mv HM2.out).mono (λ _ _ h=>.inl h)).trans ((Ch.of_mv HMM.out).mono (λ _ _ h=>.inr h))).trans ((Ch.of_mv HM3.out).mono (λ _ _ h=>.inl h))
 |false =>
  have hmm:Mv gs w (w.setCell ⟨gs,j,none⟩ (.bool true)):=(Mv.refl gs w).set j _;have HP2:=h_ (h.ch (Ch.of_mv hmm) (λ k e=>by have e':k=gs:=e;omega));have HMM:=h_ hmm
  have HC3:=h_ (stake_any _ b K V D _ HP2.out (λ s' e=>by
   obtain rfl:=(Rs.ok.inj e).2
   exact hk))
  clear h hk hc hj hmm;go_enter Tryz.func221,Tryz.ntmps221;go_wp2_with fail;refine HC3.out.mono ?_;rintro e w3 ⟨t',rfl,_,hp,hm⟩
  obtain ⟨T',hT'⟩:∃T',tkV t'=T':=⟨_,rfl⟩
  rw [hT'];clear hT';have HP3:=h_ hp;have HM3:=h_ hm;clear hp hm HC3 c0 f0;go_wp2_with fail;go_end0;refine ⟨rfl,HP3.out,(HC.out.set j (.bool true)).mv HM3.out (by omega),?_⟩;exact ((Ch.of_mv HMM.out).mono (λ _ _ h=>.inr h)).trans ((Ch.of_mv HM3.out).mono (λ _ _ h=>.inl h))
structure Q4 (W:World) (base:Nat) (d1 d2 d3 d4:DV) (v1 v2 v3 v4:Value) (F1 F2 F3 F4:List Nat):Prop where
 a1:DvAt W d1 v1 F1
 a2:DvAt W d2 v2 F2
 a3:DvAt W d3 v3 F3
 a4:DvAt W d4 v4 F4
 n1:F1.Nodup
 n2:F2.Nodup
 n3:F3.Nodup
 n4:F4.Nodup
 l1:∀g∈F1,base<=g
 l2:∀g∈F2,base<=g
 l3:∀g∈F3,base<=g
 l4:∀g∈F4,base<=g
 x12:∀g∈F1,g∉F2
 x13:∀g∈F1,g∉F3
 x14:∀g∈F1,g∉F4
 x23:∀g∈F2,g∉F3
 x24:∀g∈F2,g∉F4
 x34:∀g∈F3,g∉F4
section
variable {W W':World} {base:Nat} {d1 d2 d3 d4 d':DV} {v1 v2 v3 v4 v':Value} {F1 F2 F3 F4 F':List Nat} {S:Nat->Prop}
theorem Q4.ch (h:Q4 W base d1 d2 d3 d4 v1 v2 v3 v4 F1 F2 F3 F4) (hc:Ch S W W') (hs:∀g,base<=g->g<W.heap.size->¬S g):Q4 W' base d1 d2 d3 d4 v1 v2 v3 v4 F1 F2 F3 F4 :=
 { h with
  a1:=h.a1.ch hc (λ g hg=>hs g (h.l1 g hg) (h.a1.lt g hg))
  a2:=h.a2.ch hc (λ g hg=>hs g (h.l2 g hg) (h.a2.lt g hg))
  a3:=h.a3.ch hc (λ g hg=>hs g (h.l3 g hg) (h.a3.lt g hg))
  a4:=h.a4.ch hc (λ g hg=>hs g (h.l4 g hg) (h.a4.lt g hg)) }
theorem new_or {N:Nat} {F F' G:List Nat} (hn:∀g∈F',g∈F∨N<=g) (hx:∀g∈F,g∉G) (hG:∀g∈G,g<N):∀g∈F',g∉G:=λ g hg hg'=>by
 rcases hn g hg with h|h
 ·exact hx g h hg'
 ·have:=hG g hg';omega
theorem new_or' {N:Nat} {F F' G:List Nat} (hn:∀g∈F',g∈F∨N<=g) (hx:∀g∈G,g∉F) (hG:∀g∈G,g<N):∀g∈G,g∉F':=λ g hg hg'=>by
 rcases hn g hg' with h|h
 ·exact hx g hg h
 ·have:=hG g hg;omega
theorem new_lo {N base:Nat} {F F':List Nat} (hn:∀g∈F',g∈F∨N<=g) (hl:∀g∈F,base<=g) (hb:base<=N):∀g∈F',base<=g:=λ g hg=>(hn g hg).elim (hl g) (λ h=>Nat.le_trans hb h)
theorem Q4.up3 (h:Q4 W base d1 d2 d3 d4 v1 v2 v3 v4 F1 F2 F3 F4) (hc:Ch S W W') (hs:∀g,base<=g->g<W.heap.size->S g->g∈F3) (ha:DvAt W' d' v' F') (hn:F'.Nodup) (hF:∀g∈F',g∈F3∨W.heap.size<=g) (hb:base<=W.heap.size):Q4 W' base d1 d2 d' d4 v1 v2 v' v4 F1 F2 F' F4 :=
 { h with
  a1:=h.a1.ch hc (λ g hg hg'=>h.x13 g hg (hs g (h.l1 g hg) (h.a1.lt g hg) hg'))
  a2:=h.a2.ch hc (λ g hg hg'=>h.x23 g hg (hs g (h.l2 g hg) (h.a2.lt g hg) hg'))
  a3:=ha
  a4:=h.a4.ch hc (λ g hg hg'=>h.x34 g (hs g (h.l4 g hg) (h.a4.lt g hg) hg') hg)
  n3:=hn
  l3:=new_lo hF h.l3 hb
  x13:=new_or' hF h.x13 (h.a1.lt)
  x23:=new_or' hF h.x23 (h.a2.lt)
  x34:=new_or hF h.x34 (h.a4.lt) }
theorem Q4.up4 (h:Q4 W base d1 d2 d3 d4 v1 v2 v3 v4 F1 F2 F3 F4) (hc:Ch S W W') (hs:∀g,base<=g->g<W.heap.size->S g->g∈F4) (ha:DvAt W' d' v' F') (hn:F'.Nodup) (hF:∀g∈F',g∈F4∨W.heap.size<=g) (hb:base<=W.heap.size):Q4 W' base d1 d2 d3 d' v1 v2 v3 v' F1 F2 F3 F' :=
 { h with
  a1:=h.a1.ch hc (λ g hg hg'=>h.x14 g hg (hs g (h.l1 g hg) (h.a1.lt g hg) hg'))
  a2:=h.a2.ch hc (λ g hg hg'=>h.x24 g hg (hs g (h.l2 g hg) (h.a2.lt g hg) hg'))
  a3:=h.a3.ch hc (λ g hg hg'=>h.x34 g hg (hs g (h.l3 g hg) (h.a3.lt g hg) hg'))
  a4:=ha
  n4:=hn
  l4:=new_lo hF h.l4 hb
  x14:=new_or' hF h.x14 (h.a1.lt)
  x24:=new_or' hF h.x24 (h.a2.lt)
  x34:=new_or' hF h.x34 (h.a3.lt) }
theorem Q4.nil (W:World) (base:Nat) (e1 e2 e3 e4:TypeId) (k1 k2 k3 k4:Nat):Q4 W base (.row e1 k1 0 []) (.row e2 k2 0 []) (.row e3 k3 0 []) (.row e4 k4 0 []) (.slice none 0 0) (.slice none 0 0) (.slice none 0 0) (.slice none 0 0) [] [] [] []:=by
 have h:∀e k,DvAt W (.row e k 0 []) (.slice none 0 0) []:=λ e k=>by
  unfold DvAt;exact ⟨[],[],World.ownsRow_nil W 0 e k,rfl,DvsAt.nil W⟩
 exact ⟨h _ _,h _ _,h _ _,h _ _,List.nodup_nil,List.nodup_nil,List.nodup_nil,List.nodup_nil,by simp,by simp,by simp,by simp,by simp,by simp,by simp,by simp,by simp,by simp⟩
theorem Q4.rep (h:Q4 W base d1 d2 d3 d4 v1 v2 v3 v4 F1 F2 F3 F4):Rep W base [d1,d2,d3,d4] [v1,v2,v3,v4]:=by
 refine ⟨F1++(F2++(F3++(F4++[]))),DvsAt.cons h.a1 (DvsAt.cons h.a2 (DvsAt.cons h.a3 (DvsAt.cons h.a4 (DvsAt.nil W)))),?_,λ g hg=>?_⟩
 ·rw [List.append_nil,List.nodup_append,List.nodup_append,List.nodup_append];refine ⟨h.n1,⟨h.n2,⟨h.n3,h.n4,λ a ha b hb e=>h.x34 a ha (e ▸ hb)⟩,λ a ha b hb e=>?_⟩,λ a ha b hb e=>?_⟩
  ·subst e;rcases List.mem_append.1 hb with hb|hb
   ·exact h.x23 a ha hb
   ·exact h.x24 a ha hb
  ·subst e;rcases List.mem_append.1 hb with hb|hb
   ·exact h.x12 a ha hb
   ·rcases List.mem_append.1 hb with hb|hb
    ·exact h.x13 a ha hb
    ·exact h.x14 a ha hb
 ·simp only [List.mem_append,List.not_mem_nil,or_false] at hg;rcases hg with hg|hg|hg|hg
  ·exact h.l1 g hg
  ·exact h.l2 g hg
  ·exact h.l3 g hg
  ·exact h.l4 g hg
end
def ndC (kc nm ini dft v1 v2 v3 v4 p:Value):List Value:=[kc,nm,ini,dft,v1,v2,v3,v4,p]
theorem pre_get {pre nc:List Value} {jn i:Nat} (hp:pre.length=jn) {v:Value} (h:nc[i]?=some v):(pre++nc)[jn+i]?=some v:=by
 rw [List.getElem?_append_right (by omega),hp,Nat.add_sub_cancel_left];exact h
theorem pre_set {pre nc:List Value} {jn i:Nat} (hp:pre.length=jn) (v:Value):(pre++nc).set (jn+i) v=pre++nc.set i v:=by
 rw [List.set_append,if_neg (by omega),hp,Nat.add_sub_cancel_left]
theorem Rep.node {W:World} {base:Nat} {k p:Int} {nm ini dft:List UInt8} {en le:List SyAct} {mo:List SyMove} {ki:List SyNode} {v1 v2 v3 v4:Value} {F1 F2 F3 F4:List Nat} (h:Q4 W base (dvActs true en) (dvActs true le) (dvMoves true mo) (dvKids true ki) v1 v2 v3 v4 F1 F2 F3 F4) :
  Rep W base (dvNode true (.mk k nm ini dft en le mo ki p)) (ndC (.int .i64 k) (txV nm) (txV ini) (txV dft) v1 v2 v3 v4 (.int .i64 p)):=by
 rw [dvNode_mk];exact Rep.v rfl (Rep.v rfl (Rep.v rfl (Rep.v rfl (Rep.snoc h.rep rfl))))
theorem rep_nodeNil {W:World} {base:Nat} {k p:Int} {nm dft:List UInt8} {X Y:ByteArray} (hX:txV nm=.string X) (hY:txV dft=.string Y):Rep W base (dvNode true (.mk k nm [] dft [] [] [] [] p)) [.int .i64 k,.string X,.string ⟨#[]⟩,.string Y,.slice none 0 0,.slice none 0 0,.slice none 0 0,.slice none 0 0,.int .i64 p]:=by
 have:=Rep.node (k:=k) (p:=p) (nm:=nm) (ini:=[]) (dft:=dft) (en:=[]) (le:=[]) (mo:=[]) (ki:=[]) (Q4.nil W base _ _ _ _ _ _ _ _);unfold ndC at this;rw [hX,hY] at this;exact this
theorem hist_eq {m m1 m2 m3:Rs Unit} {d kd:Nat} {x tx:List UInt8} {p tp:Int} (his:(m.go (namedR d)).is (x,p)) (h1:(m.go (namedR d)).void=m1) (h2:m1.go (mustR 4 [45,62])=m2) (hi3:(m2.go nameR).is (tx,tp)) (h3:(m2.go nameR).void=m3) :
  (m.go λ s=>(namedR d s).bind λ y s1=>histR kd y s1)=(m3.go (mustR 4 [59])).go λ s=>.ok (SyNode.mk kd x [] tx [] [] [] [] p) s:=by
 have e1:(m1.go λ s1=>histR kd (x,p) s1)=(m2.go nameR).bind λ y s3=>(mustR 4 [59] s3).bind λ _ s4=>.ok (SyNode.mk kd x [] y.1 [] [] [] [] p) s4:=by
  rw [<-h2,go_go,<-go_bind]
  congr 1
  funext s1
  unfold histR
  cases mustR 4 [45,62] s1 <;> rfl
 rw [go_bind,Rs.seq his,h1,e1,Rs.seq hi3,h3];exact (must_fin _ _).symm
theorem shistory_any (w:World) (b:Nat) (K:Kx) (V D:Int) (m:Rs Unit) (h:PS w b K V D m) (kd:Nat) (d:Nat) (hD:D=12-(d:Int)) (hd12:d<=12) :
  Calls Tryz.prog 225 #[.pointer (some ⟨b,0,none⟩),.int .i64 (kd:Int)] w λ e w'=>∃(x:SyNode) (ys:List Value),e=.returned (.agg ys.toArray)/\Rep w' w.heap.size (dvNode true x) ys/\ys.length=9/\(m.go λ s=>(namedR d s).bind λ y s1=>histR kd y s1).is x/\PS w' b K V D (m.go λ s=>(namedR d s).bind λ y s1=>histR kd y s1).void/\Mv b w w':=by
 obtain ⟨g0,hg0⟩:∃g,g=w.heap.size:=⟨_,rfl⟩
 obtain ⟨W0,hW0⟩:∃W0,W0=w.alloc (.cells #[.int .i64 0,.string ⟨#[]⟩,.string ⟨#[]⟩,.string ⟨#[]⟩,.slice none 0 0,.slice none 0 0,.slice none 0 0,.slice none 0 0,.int .i64 0] 27):=⟨_,rfl⟩
 have HR:Hid (CB W0 g0 27 zNode):=by rw [hW0,hg0];exact CB.new w _ zNode
 have HB0:Hid (Below w.heap.size w W0):=by rw [hW0];exact (b_ _ w).alloc (n_ _) _
 have hbw:=h.blt
 have hg0w:w.heap.size<=g0:=by omega
 have hg0b:g0≠b:=by omega
 have HC1:=h_ (snamed_any W0 b K V D m (h.below HB0.out) kd d hD hd12);clear h hD;go_enter Tryz.func225,Tryz.ntmps225;go_upto_region 1 with fail;rw [<-hW0,<-hg0];clear hW0 hg0;go_wp2_with fail;refine HC1.out.mono ?_;rintro e w1 ⟨x,p,rfl,his,hp,hm⟩
 obtain ⟨X,hX⟩:∃X,txV x=.string X:=⟨_,rfl⟩
 have HX:=h_ hX;unfold nNode;rw [hX]
 obtain ⟨g5,hg5⟩:∃g,g=w1.heap.size:=⟨_,rfl⟩
 obtain ⟨W1,hW1⟩:∃W1,W1=w1.alloc (.cells #[.int .i64 (kd:Int),.string X,.string ⟨#[]⟩,.string ⟨#[]⟩,.slice none 0 0,.slice none 0 0,.slice none 0 0,.slice none 0 0,.int .i64 p] 27):=⟨_,rfl⟩
 have hb1:Below w1.heap.size w1 W1:=by rw [hW1];exact (b_ _ w1).alloc (n_ _) _
 have HN1:Hid (CB W1 g5 27 [.int .i64 (kd:Int),.string X,.string ⟨#[]⟩,.string ⟨#[]⟩,.slice none 0 0,.slice none 0 0,.slice none 0 0,.slice none 0 0,.int .i64 p]):=by rw [hW1,hg5];exact CB.new w1 _ _
 have HM1:Hid (Mv b w W1):=((Mv.of b HB0.out).trans hm).trans (Mv.of b hb1);have HR1:=h_ ((HR.out.mv hm hg0b).below hb1);have HIS:=h_ his
 obtain ⟨m1,hm1⟩:∃m1,(m.go (namedR d)).void=m1:=⟨_,rfl⟩
 rw [hm1] at hp;have HM1E:=h_ hm1;have HP1:=h_ (hp.below hb1)
 have hg5b:g5≠b:=by have:=hp.blt;omega
 have hbg5:b<g5:=by have:=hp.blt;omega
 have hg05:g0<g5:=by have:=(HR.out.mv hm hg0b).lt;omega
 have hw5:w.heap.size<=g5:=by omega
 have HC2:=h_ (sneed_any W1 b K V D m1 HP1.out ⟨#[45,62]⟩ 4 (tells_sg (by decide)) (by decide));clear hp hm hb1 hX HC1 HR his hm1;go_upto_region 2 with fail;rw [<-hW1,<-hg5];clear hW1 hg5;go_wp2_with fail;refine HC2.out.mono ?_;rintro e w2 ⟨rfl,hp,hm⟩
 obtain ⟨m2,hm2⟩:∃m2,m1.go (mustR 4 [45,62])=m2:=⟨_,rfl⟩
 replace hp:PS w2 b K V D m2:=by rw [<-hm2];exact hp
 have HM2E:=h_ hm2;have HN2:=h_ (HN1.out.mv hm hg5b);have HR2:=h_ (HR1.out.mv hm hg0b);have HM2:=h_ (HM1.out.trans hm);have HC3:=h_ (sname_any w2 b K V D m2 hp);clear hp hm hm2 HC2 HN1 HR1 HM1 HP1;go_wp2_with fail;refine HC3.out.mono ?_;rintro e w3 ⟨t,rfl,his,hp,hm⟩
 obtain ⟨Y,hY⟩:∃Y,txV t.text=.string Y:=⟨_,rfl⟩
 have HY:=h_ hY;unfold tkV;rw [hY]
 have hfl:∀w,(Instr.field 131 (.agg #[.int .i64 t.kind,.string Y,.int .i64 t.num,.int .i64 t.at_]) 1).run Tryz.prog w=.ok (.string Y) w:=λ w=>by kernel_rfl
 obtain ⟨m3,hm3⟩:∃m3,(m2.go nameR).void=m3:=⟨_,rfl⟩
 rw [hm3] at hp;have HM3E:=h_ hm3;have HIS3:=h_ his;have HN3:=h_ (HN2.out.mv hm hg5b);have HR3:=h_ (HR2.out.mv hm hg0b);have HM3:=h_ (HM2.out.trans hm);have hm5:Mv g5 w3 (w3.setCell ⟨g5,3,none⟩ (.string Y)):=(Mv.refl g5 w3).set 3 _;have HP4:=h_ (hp.ch (Ch.of_mv hm5) (λ k e=>by have e':k=g5:=e;omega));have HN4:=h_ (HN3.out.set 3 (.string Y));have HR4:=h_ (HR3.out.mv hm5 (by omega));have HM4:=h_ (HM3.out.put 3 g5 hw5 (.string Y));have HC4:=h_ (sneed_any _ b K V D m3 HP4.out ⟨#[59]⟩ 4 (tells_sg (by decide)) (by decide));have c3:=HN3.out.c 3 rfl;have f3:=HN3.out.fr 3;clear hp hm hm3 his hY hm5 HC3 HN2 HR2 HM2;go_wp2_with fail;refine HC4.out.mono ?_;rintro e w5 ⟨rfl,hp,hm⟩;have HN5:=h_ (HN4.out.mv hm hg5b);have hr5:=HR4.out.mv hm hg0b;unfold zNode at hr5;have HR5:=h_ hr5;have HM5:=h_ (HM4.out.trans hm);have HP5:=h_ hp;clear hp hm HC4 hfl c3 f3 hr5;simp only [k_,v_] at HN5;have n0:=HN5.out.c 0 rfl;have n1:=HN5.out.c 1 rfl;have n2:=HN5.out.c 2 rfl;have n3:=HN5.out.c 3 rfl;have n4:=HN5.out.c 4 rfl;have n5:=HN5.out.c 5 rfl;have n6:=HN5.out.c 6 rfl;have n7:=HN5.out.c 7 rfl;have n8:=HN5.out.c 8 rfl;have q0:=HR5.out.c 0 rfl;have q1:=HR5.out.c 1 rfl;have q2:=HR5.out.c 2 rfl;have q3:=HR5.out.c 3 rfl;have q4:=HR5.out.c 4 rfl;have q5:=HR5.out.c 5 rfl;have q6:=HR5.out.c 6 rfl;have q7:=HR5.out.c 7 rfl;have q8:=HR5.out.c 8 rfl;have f0:=HR5.out.fr 0;have f1:=HR5.out.fr 1;have f2:=HR5.out.fr 2;have f3:=HR5.out.fr 3;have f4:=HR5.out.fr 4;have f5:=HR5.out.fr 5;have f6:=HR5.out.fr 6;have f7:=HR5.out.fr 7;have f8:=HR5.out.fr 8;go_wp2_with fail;have hres:=HR5.out.all [.int .i64 (kd:Int),.string X,.string ⟨#[]⟩,.string Y,.slice none 0 0,.slice none 0 0,.slice none 0 0,.slice none 0 0,.int .i64 p] rfl;have hmf:=sets_put HM5.out hg0w 0 [.int .i64 (kd:Int),.string X,.string ⟨#[]⟩,.string Y,.slice none 0 0,.slice none 0 0,.slice none 0 0,.slice none 0 0,.int .i64 p];have hpf:=HP5.out.sets (g:=g0) (by omega) 0 [.int .i64 (kd:Int),.string X,.string ⟨#[]⟩,.string Y,.slice none 0 0,.slice none 0 0,.slice none 0 0,.slice none 0 0,.int .i64 p];simp only [sets,Nat.reduceAdd] at hres hmf hpf;refine bodyPost_ret (resNode rfl _ rfl hres) rfl ?_;have hEQ:=hist_eq (kd:=kd) HIS.out HM1E.out HM2E.out HIS3.out HM3E.out;refine ⟨.mk kd x [] t.text [] [] [] [] p,_,rfl,?_,rfl,?_,?_,hmf⟩
 ·refine rep_nodeNil (k:=kd) (p:=p) HX.out HY.out
 ·rw [hEQ];exact go_ok_is _ _
 ·rw [hEQ,go_ok_void];exact hpf
theorem cells13 {l:List Value} (h:l.length=13):∃y0 y1 y2 y3 y4 y5 y6 y7 y8 y9 y10 y11 y12,l=[y0,y1,y2,y3,y4,y5,y6,y7,y8,y9,y10,y11,y12]:=by
 match l,h with
 |[y0,y1,y2,y3,y4,y5,y6,y7,y8,y9,y10,y11,y12],_=>exact ⟨_,_,_,_,_,_,_,_,_,_,_,_,_,rfl⟩
def clF (b gn jn:Nat) (v:Value) (i:Nat) (_vals:Nat->Option Value) (u:Value):Prop:=match i with
 |0=>u=.pointer (some ⟨gn,jn,none⟩)
 |1=>u=.pointer (some ⟨gn,jn,none⟩)
 |2=>u=.pointer (some ⟨gn,jn,none⟩)
 |3=>u=.pointer (some ⟨gn,jn+6,none⟩)
 |4=>u=v
 |5=>u=.pointer (some ⟨b,0,none⟩)
 |6=>∃ys:List Value,u=.agg ys.toArray/\ys.length=13
 |7=>∃gs:Nat,u=.slice (some ⟨gs,0,none⟩) 1 1
 |9=>u=.pointer (some ⟨gn,jn,none⟩)
 |10=>u=.pointer (some ⟨gn,jn+6,none⟩)
 |_=>True
structure NS (W:World) (gn jn gs base:Nat) (T:TypeId) (pre:List Value) (kc nmv dfv pv:Value) (x:SyB) (ki:List SyNode):Prop where
 ex:∃v1 v2 v3 v4 F1 F2 F3 F4,CB W gn T (pre++ndC kc nmv (txV x.initial) dfv v1 v2 v3 v4 pv)/\Q4 W base (dvActs true x.enter) (dvActs true x.leave) (dvMoves true x.moves) (dvKids true ki) v1 v2 v3 v4 F1 F2 F3 F4
 sn:CB W gs 219 [.bool x.hi,.bool x.he,.bool x.hl]
theorem NS.ch {S:Nat->Prop} {W W':World} {gn jn gs base:Nat} {T:TypeId} {pre:List Value} {kc nmv dfv pv:Value} {x:SyB} {ki:List SyNode} (h:NS W gn jn gs base T pre kc nmv dfv pv x ki) (hc:Ch S W W') (hn:¬S gn) (hg:¬S gs) (hs:∀g,base<=g->g<W.heap.size->¬S g):NS W' gn jn gs base T pre kc nmv dfv pv x ki:=by
 obtain ⟨v1,v2,v3,v4,F1,F2,F3,F4,h1,h2⟩:=h.ex;exact ⟨⟨v1,v2,v3,v4,F1,F2,F3,F4,h1.ch hc hn,h2.ch hc hs⟩,h.sn.ch hc hg⟩
theorem NS.below {W W':World} {gn jn gs base:Nat} {T:TypeId} {pre:List Value} {kc nmv dfv pv:Value} {x:SyB} {ki:List SyNode} (h:NS W gn jn gs base T pre kc nmv dfv pv x ki) (hb:Below W.heap.size W W'):NS W' gn jn gs base T pre kc nmv dfv pv x ki:=h.ch (Ch.of_below (S:=λ _=>False) hb) (λ h=>h) (λ h=>h) (λ _ _ _ h=>h)
theorem once_go {α:Type} (had:Bool) (s:Ss) (f:Ss->Rs α):(if had=true then wrongR s.ts else f s.drop)=(onceR had s).go f:=by
 unfold onceR
 split
 ·cases s.ts with
  |nil=>rfl
  |cons t r=>rw [wrongR_cons,wrongR_cons];split <;> rfl
 ·rfl
theorem init_out {x:SyB} {s:Ss} {m1 m2:Rs Unit} {tx:List UInt8} {tp:Int} (hm:onceR x.hi s=m1) (his:(m1.go nameR).is (tx,tp)) (h2:(m1.go nameR).void=m2) :
  initS x s=(m2.go (mustR 4 [59])).go λ s'=>.ok (⟨tx,x.enter,x.leave,x.moves,true,x.he,x.hl⟩,true) s':=by
 unfold initS;rw [once_go x.hi s (λ s1=>(nameR s1).bind λ y s1=>(mustR 4 [59] s1).bind λ _ s2=>.ok ((⟨y.1,x.enter,x.leave,x.moves,true,x.he,x.hl⟩:SyB),true) s2),hm,go_bind,Rs.seq his,h2];exact (must_fin _ _).symm
theorem mov_out {x:SyB} {s:Ss} {y:SyMove} (hk:moveK s.ts≠0) (his:(moveR s).is y) :
  movS x s=(moveR s).void.go λ s'=>.ok (⟨x.initial,x.enter,x.leave,x.moves++[y],x.hi,x.he,x.hl⟩,true) s':=by
 unfold movS;rw [if_neg hk,Rs.seq his]
def ClEnd (w:World) (b:Nat) (K:Kx) (V D:Int) (s:Ss) (gn jn gs base:Nat) (T:TypeId) (pre:List Value) (kc nmv dfv pv:Value) (x:SyB) (ki:List SyNode) (e:Ending) (w':World):Prop :=
 e=.returned (.tuple #[])/\∃y,(∀z bb s',clauseS x s=.ok (z,bb) s'->z=y)/\PS w' b K V D (clauseS x s).void/\NS w' gn jn gs base T pre kc nmv dfv pv y ki/\Ch (λ k=>k=b∨k=gn∨k=gs∨base<=k) w w'/\y.moves.length<=x.moves.length+1
end Go.Proofs.YtocecpghoncmgaaGreatDoor
