import Derived.Test.YtcddbfdbhjkjgaaGreatDoorQh
import Derived.Test.YtcddbfdbhjkjgaaGreatDoorQSzC
import Derived.Test.YtcddbfdbhjkjgaaGreatDoorYB
import Derived.Test.YtcddbfdbhjkjgaaGreatDoorEB
import Derived.Test.YtcddbfdbhjkjgaaGreatDoorXF
import Derived.Test.YtcddbfdbhjkjgaaGreatDoorYC
set_option maxHeartbeats 12800000
set_option maxRecDepth 20000
namespace Go.Proofs.YtcddbfdbhjkjgaaGreatDoor
open Go.RowKit
def XvM (K:Kx) (r:Rv):Rs Unit→Prop
 |.out=>False
 |.bad c p=>r.code=c∧r.pos=p∧c≠0
 |.ok _ s=>r.code=0∧K.xs.drop r.q=s.ts∧TkEnds s.ts∧r.N=(s.n:Int)∧r.M=(s.m:Int)∧r.C=(s.a:Int)∧Fits s
def Rv.of (r:Rv) (K:Kx):Prop:=r.A=K.A∧r.n=K.n∧r.c=K.c
structure XS (w:World) (b:Nat) (K:Kx) (D:Int) (m:Rs Unit):Prop where
 out:∃r:Rv,RvB w b r∧r.of K∧r.q<K.n∧r.D=D∧XvM K r m
 at_:TkAt w K.A K.n K.xs
 lt:∀g o,K.A=some ⟨g,o,none⟩→g<b
 ok:KOk K
section
variable {w w':World} {b:Nat} {K:Kx} {D:Int} {m:Rs Unit}
theorem XS.blt (h:XS w b K D m):b<w.heap.size:=by
 obtain ⟨r,h1,_⟩:=h.out
 exact h1.lt
theorem XS.below (h:XS w b K D m) (hb:Below w.heap.size w w'):XS w' b K D m:=by
 obtain ⟨r,h1,h2⟩:=h.out
 exact ⟨⟨r,h1.below hb,h2⟩,h.at_.below hb,h.lt,h.ok⟩
theorem XS.ch {S:Nat→Prop} (h:XS w b K D m) (hc:Ch S w w') (hs:∀k,S k→b<k):XS w' b K D m:=by
 obtain ⟨r,h1,h2⟩:=h.out
 have hn:∀k,k≤b→¬S k:=fun k hk h'=>by have:=hs k h';omega
 refine ⟨⟨r,?_,h2⟩,⟨h.at_.1,fun i t hi=>?_⟩,h.lt,h.ok⟩
 ·unfold RvB at h1 ⊢
  exact (hc.block b (RvB.lt h1) (hn b (n_ _))).trans h1
 ·obtain ⟨g,o,e,a0,a1,a2,a3⟩:=h.at_.2 i t hi
  have hb:w'.heap[g]?=w.heap[g]?:=hc.block g (World.block_lt_of_cell? w _ a0) (hn g (Nat.le_of_lt (h.lt g o e)))
  have e':∀j,w'.cell? ⟨g,j,none⟩=w.cell? ⟨g,j,none⟩:=fun j=>World.cell?_of_block (w:=w) hb
  exact ⟨g,o,e,by rw [e'];exact a0,by rw [e'];exact a1,by rw [e'];exact a2,by rw [e'];exact a3⟩
theorem XS.turn {r:Rv} {D':Int} {m':Rs Unit} (h:XS w b K D m) (hm:Mv b w w') (h1:RvB w' b r) (h0:r.of K) (h2:r.q<K.n) (h4:r.D=D') (h5:XvM K r m'):XS w' b K D' m' :=
 ⟨⟨r,h1,h0,h2,h4,h5⟩,h.at_.mv hm (fun g o e=>Nat.ne_of_lt (h.lt g o e)),h.lt,h.ok⟩
theorem XS.notOut (h:XS w b K D m):m≠.out:=by
 obtain ⟨r,_,_,_,_,h5⟩:=h.out
 intro e
 rw [e] at h5
 exact h5
theorem XS.fits (h:XS w b K D m):∀s,m=.ok () s→Fits s:=fun s e=>by
 obtain ⟨r,_,_,_,_,h5⟩:=h.out
 rw [e] at h5
 exact h5.2.2.2.2.2.2
end
theorem XvM.tok {K:Kx} {r:Rv} {m:Rs Unit} {t:Tk} (h:XvM K r m) (ht:K.xs[r.q]?=some t):TokAt K m t:=by
 refine ⟨List.mem_of_getElem? ht,fun s e=>?_⟩
 rw [e] at h
 obtain ⟨_,h1,_⟩:=h
 have:=List.drop_eq_getElem_cons (List.getElem?_eq_some_iff.1 ht).1
 rw [(List.getElem?_eq_some_iff.1 ht).2] at this
 exact ⟨_,by rw [←h1,this]⟩
theorem XS.tok {w:World} {b:Nat} {K:Kx} {D:Int} {m:Rs Unit} (h:XS w b K D m):∃r t,RvB w b r∧r.of K∧r.q<K.n∧r.D=D∧XvM K r m∧K.xs[r.q]?=some t∧TokAt K m t:=by
 obtain ⟨r,h1,h0,h2,h4,h5⟩:=h.out
 obtain ⟨t,ht⟩:∃t,K.xs[r.q]?=some t:=⟨_,List.getElem?_eq_getElem (by rw [h.at_.1];exact h2)⟩
 exact ⟨r,t,h1,h0,h2,h4,h5,ht,h5.tok ht⟩
theorem XS.head {w:World} {b:Nat} {K:Kx} {D:Int} {m:Rs Unit} (h:XS w b K D m) {x:Unit} {s:Ss} (e:m=.ok x s):∃t l,s.ts=t::l∧LexT t∧Lex t∧TkEnds s.ts∧Fits s:=by
 obtain ⟨r,t,_,_,_,_,h5,_,h6⟩:=h.tok
 obtain ⟨l,hl⟩:=h6.2 s (by rw [e])
 rw [e] at h5
 exact ⟨t,l,hl,h.ok.lexT t h6.1,h.ok.lex t h6.1,h5.2.2.1,h5.2.2.2.2.2.2⟩
theorem XvM.code {K:Kx} {r:Rv} {m:Rs Unit} (h:XvM K r m):(r.code==0)=m.tell fun _=>true:=by
 cases m with
 |out=>exact h.elim
 |bad c p =>
  obtain ⟨h1,_,h2⟩:=h
  rw [h1]
  exact beq_eq_false_iff_ne.2 h2
 |ok x s =>
  rw [h.1]
  rfl
theorem XvM.is {K:Kx} {r:Rv} {m:Rs Unit} {t:Tk} (h:XvM K r m) (ht:TokAt K m t) (k:Int) (u:List UInt8):((r.code==0)&&isTk k u t)=m.tell fun s=>isAt k u s.ts:=by
 rw [h.code]
 cases m with
 |out=>rfl
 |bad c p=>rfl
 |ok x s =>
  obtain ⟨l,hl⟩:=ht.2 s rfl
  show (true&&isTk k u t)=isAt k u s.ts
  rw [hl,Bool.true_and]
  rfl
theorem XvM.kind {K:Kx} {r:Rv} {m:Rs Unit} {t:Tk} (h:XvM K r m) (ht:TokAt K m t) (k:Int):((r.code==0)&&(t.kind==k))=m.tell fun s=>kindOf s.ts==k:=by
 rw [h.code]
 cases m with
 |out=>rfl
 |bad c p=>rfl
 |ok x s =>
  obtain ⟨l,hl⟩:=ht.2 s rfl
  show (true&&(t.kind==k))=(kindOf s.ts==k)
  rw [hl,Bool.true_and]
  rfl
theorem XvM.step {K:Kx} {r:Rv} {s:Ss} (h:XvM K r (.ok () s)) (hk:kindOf s.ts≠5) (hl:K.xs.length=K.n):r.q+1<K.n∧XvM K { r with q:=r.q+1 } (.ok () s.drop):=by
 obtain ⟨h1,h2,h3,h4⟩:=h
 obtain ⟨ts,n,m,a⟩:=s
 simp only at h2 h3 h4 hk
 match ts,h2,h3,hk with
 |[],_,h3,_=>exact absurd rfl h3.ne
 |t::l,h2,h3,hk =>
  have h5:=h3.tail hk
  have h6:K.xs.drop (r.q+1)=l:=by
   rw [←List.drop_drop,h2]
   rfl
  refine ⟨?_,h1,h6,h5,h4⟩
  rcases Nat.lt_or_ge (r.q+1) K.n with h|h
  ·exact h
  ·rw [List.drop_eq_nil_of_le (by omega)] at h6
   exact absurd h6.symm h5.ne
theorem stop_of {r:Rv} {K:Kx} (h:r.of K) (e:Int) (t:Tk):(r.stop e t).of K∧(r.stop e t).q=r.q∧(r.stop e t).D=r.D:=by
 unfold Rv.stop
 split
 ·exact ⟨h,rfl,rfl⟩
 ·exact ⟨h,rfl,rfl⟩
theorem XvM.stop {K:Kx} {r:Rv} {m:Rs Unit} {t:Tk} (h:XvM K r m) (ht:TokAt K m t) {e:Int} (he:e≠0):XvM K (r.stop e t) (m.go fun s=>stopR e s.ts):=by
 cases m with
 |out=>exact h.elim
 |bad c p =>
  have hc:¬r.code=0:=by rw [h.1];exact h.2.2
  unfold Rv.stop
  rw [if_neg hc]
  exact h
 |ok x s =>
  obtain ⟨l,hl⟩:=ht.2 s rfl
  unfold Rv.stop
  rw [if_pos h.1]
  show XvM K _ (stopR e s.ts)
  rw [hl]
  exact ⟨rfl,rfl,he⟩
theorem wrong_stop {α:Type} (t:Tk) (l:List Tk):(wrongR (t::l):Rs α)=stopR (wrC t) (t::l):=by
 rw [wrongR_cons]
 unfold wrC
 split <;> rfl
theorem XvM.wrong {K:Kx} {r:Rv} {m:Rs Unit} {t:Tk} (h:XvM K r m) (ht:TokAt K m t):XvM K (r.wrong t) (m.go fun s=>wrongR s.ts):=by
 have h1:=h.stop ht (wrC_ne t)
 have e:(m.go fun s=>(wrongR s.ts:Rs Unit))=m.go fun s=>stopR (wrC t) s.ts:=by
  cases m with
  |out=>rfl
  |bad c p=>rfl
  |ok x s =>
   obtain ⟨l,hl⟩:=ht.2 s rfl
   show wrongR s.ts=stopR (wrC t) s.ts
   rw [hl,wrong_stop]
 rw [e]
 exact h1
section
variable (w:World) (b:Nat) (K:Kx) (D:Int) (m:Rs Unit)
theorem xstop_s (h:XS w b K D m) (e:Int) (he:e≠0) :
  Calls Tryz.prog 39 #[.pointer (some ⟨b,0,none⟩),.int .i64 e] w fun e' w'=>e'=.returned (.tuple #[])∧XS w' b K D (m.go fun s=>stopR e s.ts)∧Mv b w w':=by
 obtain ⟨r,t,h1,h0,h2,h4,h5,h6,h7⟩:=h.tok
 refine (xstop_any w b r e K.xs t h1 (by rw [h0.1,h0.2.1];exact h.at_) h6).mono ?_
 rintro e' w' ⟨rfl,k1,k2⟩
 have k3:=stop_of h0 e t
 exact ⟨rfl,h.turn k2 k1 k3.1 (by rw [k3.2.1];exact h2) (k3.2.2.trans h4) (h5.stop h7 he),k2⟩
theorem xwrong_s (h:XS w b K D m) :
  Calls Tryz.prog 21 #[.pointer (some ⟨b,0,none⟩)] w fun e' w'=>e'=.returned (.tuple #[])∧XS w' b K D (m.go fun s=>wrongR s.ts)∧Mv b w w':=by
 obtain ⟨r,t,h1,h0,h2,h4,h5,h6,h7⟩:=h.tok
 refine (xwrong_any w b r K.xs t h1 (by rw [h0.1,h0.2.1];exact h.at_) h6).mono ?_
 rintro e' w' ⟨rfl,k1,k2⟩
 have k3:=stop_of h0 (wrC t) t
 exact ⟨rfl,h.turn k2 k1 k3.1 (by show (r.stop (wrC t) t).q<K.n;rw [k3.2.1];exact h2) (k3.2.2.trans h4) (h5.wrong h7),k2⟩
theorem xis_s (h:XS w b K D m) (k:Int) (S:ByteArray) :
  Calls Tryz.prog 43 #[.pointer (some ⟨b,0,none⟩),.int .i64 k,.string S] w fun e w'=>e=.returned (.bool (m.tell fun s=>isAt k S.data.toList s.ts))∧Below w.heap.size w w':=by
 obtain ⟨r,t,h1,h0,h2,h4,h5,h6,h7⟩:=h.tok
 rw [←h5.is h7]
 exact xis_any w b r K.xs t k S h1 (by rw [h0.1,h0.2.1];exact h.at_) h6
theorem next_of {K:Kx} {m:Rs Unit} {w:World} {b:Nat} {D:Int} (h:XS w b K D m) {r:Rv} (h0:r.of K) (h2:r.q<K.n) (h5:XvM K r m) {d:Bool} {u:List UInt8} {k:Int} (hk5:k≠5) (hd:d=m.tell fun s=>isAt k u s.ts):(r.next d).of K∧(r.next d).q<K.n∧(r.next d).D=r.D∧XvM K (r.next d) (m.go (skipR k u)):=by
 cases d with
 |false =>
  refine ⟨h0,h2,rfl,?_⟩
  cases m with
  |out=>exact h5.elim
  |bad c p=>exact h5
  |ok x s =>
   have:isAt k u s.ts=false:=hd.symm
   show XvM K r (skipR k u s)
   unfold skipR
   rw [this,if_neg (by decide)]
   exact h5
 |true =>
  obtain ⟨s,rfl,hs⟩:=Rs.tell_true hd.symm
  obtain ⟨e1,e2⟩:=h5.step (isAt_kind hs hk5) h.at_.1
  refine ⟨h0,e1,rfl,?_⟩
  show XvM K _ (skipR k u s)
  unfold skipR
  rw [hs,if_pos rfl]
  exact e2
theorem xpass_s (h:XS w b K D m) (k:Int) (S:ByteArray) (hk5:k≠5) :
  Calls Tryz.prog 38 #[.pointer (some ⟨b,0,none⟩),.int .i64 k,.string S] w fun e w'=>e=.returned (.bool (m.tell fun s=>isAt k S.data.toList s.ts))∧XS w' b K D (m.go (skipR k S.data.toList))∧Mv b w w':=by
 obtain ⟨r,t,h1,h0,h2,h4,h5,h6,h7⟩:=h.tok
 refine (xpass_any w b r K.xs t k S h1 (by rw [h0.1,h0.2.1];exact h.at_) h6 (by rw [h0.2.1];have:=h.ok.n;omega)).mono ?_
 rintro e w' ⟨rfl,k1,k2⟩
 rw [h5.is h7 k S.data.toList] at k1 ⊢
 obtain ⟨e1,e2,e3,e4⟩:=next_of h h0 h2 h5 hk5 rfl
 exact ⟨rfl,h.turn k2 k1 e1 e2 (e3.trans h4) e4,k2⟩
theorem xmust_s (h:XS w b K D m) (k:Int) (S:ByteArray) (hk5:k≠5) :
  Calls Tryz.prog 17 #[.pointer (some ⟨b,0,none⟩),.int .i64 k,.string S] w fun e w'=>e=.returned (.tuple #[])∧XS w' b K D (m.go (mustR k S.data.toList))∧Mv b w w':=by
 obtain ⟨r,t,h1,h0,h2,h4,h5,h6,h7⟩:=h.tok
 refine (xmust_any w b r K.xs t k S h1 (by rw [h0.1,h0.2.1];exact h.at_) h6 (by rw [h0.2.1];have:=h.ok.n;omega) (fun g o e=>by rw [h0.1] at e;exact Nat.ne_of_lt (h.lt g o e))).mono ?_
 rintro e w' ⟨rfl,k1,k2⟩
 rw [h5.is h7 k S.data.toList] at k1
 refine ⟨rfl,?_,k2⟩
 cases hd:m.tell fun s=>isAt k S.data.toList s.ts with
 |true =>
  rw [hd,if_pos rfl] at k1
  obtain ⟨s,rfl,hs⟩:=Rs.tell_true hd
  obtain ⟨e1,e2⟩:=h5.step (isAt_kind hs hk5) h.at_.1
  refine h.turn k2 k1 h0 e1 h4 ?_
  show XvM K _ (mustR k S.data.toList s)
  unfold mustR
  rw [hs,if_pos rfl]
  exact e2
 |false =>
  rw [hd,if_neg (by decide)] at k1
  have k3:=stop_of h0 (wrC t) t
  refine h.turn k2 k1 k3.1 (by show (r.stop (wrC t) t).q<K.n;rw [k3.2.1];exact h2) (k3.2.2.trans h4) ?_
  have e:m.go (mustR k S.data.toList)=m.go fun s=>wrongR s.ts:=by
   cases m with
   |out=>rfl
   |bad c p=>rfl
   |ok x s =>
    have hs:isAt k S.data.toList s.ts=false:=hd
    show mustR k S.data.toList s=_
    unfold mustR
    rw [hs,if_neg (by decide)]
    rfl
  rw [e]
  exact h5.wrong h7
theorem xname_s (h:XS w b K D m) :
  Calls Tryz.prog 40 #[.pointer (some ⟨b,0,none⟩)] w fun e w'=>∃(x:List UInt8) (X:ByteArray) (p:Int),txV x=.string X∧e=.returned (.tuple #[.string X,.int .i64 p])∧(m.go nameR).is (x,p)∧XS w' b K D (m.go nameR).void∧Mv b w w':=by
 obtain ⟨r,t,h1,h0,h2,h4,h5,h6,h7⟩:=h.tok
 refine (xname_any w b r K.xs t h1 (by rw [h0.1,h0.2.1];exact h.at_) h6 (by rw [h0.2.1];have:=h.ok.n;omega)).mono ?_
 rintro e w' ⟨rfl,k1,k2⟩
 rw [h5.kind h7 1] at k1 ⊢
 cases hd:m.tell fun s=>kindOf s.ts==1 with
 |true =>
  rw [hd,if_pos rfl] at k1
  rw [if_pos rfl]
  obtain ⟨s,rfl,hs⟩:=Rs.tell_true hd
  obtain ⟨l,hl⟩:=h7.2 s rfl
  have hk:t.kind=1:=by rw [hl] at hs;exact eq_of_beq hs
  obtain ⟨e1,e2⟩:=h5.step (by rw [hl];show t.kind≠5;rw [hk];decide) h.at_.1
  have en:(Rs.ok () s).go nameR=.ok (t.text,t.at_) s.drop:=by
   show nameR s=_
   unfold nameR Ss.drop
   rw [hl]
   simp only [hk,if_true,List.tail_cons]
  exact ⟨t.text,_,t.at_,rfl,rfl,by rw [en];exact Rs.is_ok rfl,by rw [en];exact h.turn k2 k1 h0 e1 h4 e2,k2⟩
 |false =>
  rw [hd,if_neg (by decide)] at k1
  rw [if_neg (by decide)]
  have k3:=stop_of h0 (wrC t) t
  have en:m.go nameR=m.go fun s=>wrongR s.ts:=by
   cases m with
   |out=>rfl
   |bad c p=>rfl
   |ok x s =>
    obtain ⟨l,hl⟩:=h7.2 s rfl
    have hs:(kindOf s.ts==1)=false:=hd
    have hk:¬t.kind=1:=by rw [hl] at hs;exact beq_eq_false_iff_ne.1 hs
    show nameR s=wrongR s.ts
    unfold nameR
    rw [hl]
    simp only [hk,if_false]
  refine ⟨[],_,0,rfl,rfl,by rw [en];exact fun y s e=>absurd e (go_wrong m s y),?_,k2⟩
  rw [en,go_wrong_void]
  exact h.turn k2 k1 k3.1 (by show (r.stop (wrC t) t).q<K.n;rw [k3.2.1];exact h2) (k3.2.2.trans h4) (h5.wrong h7)
theorem xint_s (h:XS w b K D m) :
  Calls Tryz.prog 41 #[.pointer (some ⟨b,0,none⟩)] w fun e w'=>∃z:Int,0≤z∧z≤9223372036854775807∧e=.returned (.int .i64 z)∧(m.go numR).is z∧XS w' b K D (m.go numR).void∧Mv b w w':=by
 obtain ⟨r,t,h1,h0,h2,h4,h5,h6,h7⟩:=h.tok
 refine (xint_any w b r K.xs t h1 (by rw [h0.1,h0.2.1];exact h.at_) h6 (by rw [h0.2.1];have:=h.ok.n;omega)).mono ?_
 rintro e w' ⟨rfl,k1,k2⟩
 rw [h5.kind h7 3] at k1 ⊢
 cases hd:m.tell fun s=>kindOf s.ts==3 with
 |true =>
  rw [hd,if_pos rfl] at k1
  rw [if_pos rfl]
  obtain ⟨s,rfl,hs⟩:=Rs.tell_true hd
  obtain ⟨l,hl⟩:=h7.2 s rfl
  have hk:t.kind=3:=by rw [hl] at hs;exact eq_of_beq hs
  obtain ⟨e1,e2⟩:=h5.step (by rw [hl];show t.kind≠5;rw [hk];decide) h.at_.1
  have en:(Rs.ok () s).go numR=.ok t.num s.drop:=by
   show numR s=_
   unfold numR Ss.drop
   rw [hl]
   simp only [hk,if_true,List.tail_cons]
  have hlx:=h.ok.lex t h7.1
  exact ⟨t.num,(hlx.2 hk).1,(hlx.2 hk).2,rfl,by rw [en];exact Rs.is_ok rfl,by rw [en];exact h.turn k2 k1 h0 e1 h4 e2,k2⟩
 |false =>
  rw [hd,if_neg (by decide)] at k1
  rw [if_neg (by decide)]
  have k3:=stop_of h0 (wrC t) t
  have en:m.go numR=m.go fun s=>wrongR s.ts:=by
   cases m with
   |out=>rfl
   |bad c p=>rfl
   |ok x s =>
    obtain ⟨l,hl⟩:=h7.2 s rfl
    have hs:(kindOf s.ts==3)=false:=hd
    have hk:¬t.kind=3:=by rw [hl] at hs;exact beq_eq_false_iff_ne.1 hs
    show numR s=wrongR s.ts
    unfold numR
    rw [hl]
    simp only [hk,if_false]
  refine ⟨0,by decide,by decide,rfl,by rw [en];exact fun y s e=>absurd e (go_wrong m s y),?_,k2⟩
  rw [en,go_wrong_void]
  exact h.turn k2 k1 k3.1 (by show (r.stop (wrC t) t).q<K.n;rw [k3.2.1];exact h2) (k3.2.2.trans h4) (h5.wrong h7)
def Rs.num (m:Rs Unit) (P:Ss→Nat):Nat:=match m with
 |.ok _ s=>P s
 |_=>0
theorem wordAt_head (t:Tk) (r:List Tk):∀(l:List (List UInt8)) (i:Nat),wordAt [t] l i=wordAt (t::r) l i
 |[],_=>rfl
 |u::l,i=>by
  show (if isTk 2 u t=true then i else wordAt [t] l (i+1))=if isTk 2 u t=true then i else wordAt (t::r) l (i+1)
  rw [wordAt_head t r l (i+1)]
theorem XvM.word {K:Kx} {r:Rv} {m:Rs Unit} {t:Tk} (h:XvM K r m) (ht:TokAt K m t) (us:List (List UInt8)):kwN r.code t us=((m.num fun s=>wordAt s.ts us 1:Nat):Int):=by
 unfold kwN
 cases m with
 |out=>exact h.elim
 |bad c p =>
  rw [if_neg (by rw [h.1];exact h.2.2)]
  rfl
 |ok x s =>
  obtain ⟨l,hl⟩:=ht.2 s rfl
  rw [if_pos h.1,wordAt_head t l]
  show _=((wordAt s.ts us 1:Nat):Int)
  rw [hl]
theorem xmoving_s (h:XS w b K D m) :
  Calls Tryz.prog 45 #[.pointer (some ⟨b,0,none⟩)] w fun e w'=>e=.returned (.int .i64 ((m.num fun s=>moveK s.ts:Nat):Int))∧Below w.heap.size w w':=by
 obtain ⟨r,t,h1,h0,h2,h4,h5,h6,h7⟩:=h.tok
 have e:((m.num fun s=>moveK s.ts:Nat):Int)=kwN r.code t [wOn,wAlways,wAfter]:=(h5.word h7 _).symm
 rw [e]
 exact xmoving_any w b r K.xs t h1 (by rw [h0.1,h0.2.1];exact h.at_) h6
theorem xkind_s (h:XS w b K D m) :
  Calls Tryz.prog 47 #[.pointer (some ⟨b,0,none⟩)] w fun e w'=>e=.returned (.int .i64 ((m.num fun s=>nodeK s.ts:Nat):Int))∧Below w.heap.size w w':=by
 obtain ⟨r,t,h1,h0,h2,h4,h5,h6,h7⟩:=h.tok
 have e:((m.num fun s=>nodeK s.ts:Nat):Int)=kwN r.code t [wState,wParallel,wHistory,wDeep]:=(h5.word h7 _).symm
 rw [e]
 exact xkind_any w b r K.xs t h1 (by rw [h0.1,h0.2.1];exact h.at_) h6
end
theorem res2_gvv {w:World} {g1 g2 lo lo':Nat} {x:GX} {v:EV} (h:GV w lo' w.heap.size x v) (h1:g1<lo') (h2:g2<lo') (hlo:lo≤lo') (u:EV) (c p:Int):GV (res2 w g1 g2 u c p) lo (res2 w g1 g2 u c p).heap.size x v :=
 ((h.mv (six_mv w g1 u) h1).mv (two_mv _ g2 c p) h2).mono hlo (n_ _)
theorem rparseq_any (w:World) (n c q0:Nat) (A:Option Addr) (xs r0:List Tk) (hA:TkAt w A n xs) (he:TkEnds xs) (hq0:xs.drop q0=r0) (he0:TkEnds r0) (hq0n:q0<n) (hn:n≤1000000000) :
  Calls Tryz.prog 96 #[.slice A n c,.int .i64 (q0:Int)] w fun e w'=>∃(v:EV) (q:Nat),e=.returned (.tuple #[v.val,.int .i64 (q:Int),ftP (Pf 0 0 r0)])∧PQ w' w.heap.size n xs v q (Pf 0 0 r0)∧Below w.heap.size w w':=by
 have hn0:0<n:=by rw [←hA.1];exact (ends_at he).2
 have hn0':decide ((q0:Int) ≥ n)=false:=decide_eq_false (by omega)
 have hn0'':¬(q0:Int) ≥ n:=by omega
 have hn1':decide ((q0:Int)<0)=false:=decide_eq_false (by omega)
 have hn1'':¬(q0:Int)<0:=by omega
 obtain ⟨W0,g1,g2,hW0,hg1,hg2,HX,HF,HB0,hg1w,hg2w,hg12,hg10,hg20⟩:=ret_cells w
 have HAB:Hid (∀g o,A=some ⟨g,o,none⟩→g<w.heap.size):=fun g o e=>by
  obtain ⟨t,ht⟩:=hA.get hn0
  obtain ⟨g',o',e',x0,_⟩:=hA.2 0 t ht
  rw [e] at e'
  injection e' with e'
  injection e' with e1 _
  rw [e1]
  exact World.block_lt_of_cell? w _ x0
 have HPS:=h_ (fun (W:World) (b:Nat) (hb:Below w.heap.size w W) (hbw:w.heap.size≤b) (hp:RdB W b A n c q0 0 0 0)=>efrom_any W b n c q0 0 0 A xs r0 (by omega) hp (hA.below hb) (fun g o e=>by have:=HAB.out g o e;omega) hq0 he0 hn (by omega))
 have HEN:=h_ (ends_at he).1
 have HLN:=h_ hA.1
 have HA:=h_ (fun (W:World) (hb:Below w.heap.size w W)=>hA.below hb)
 obtain ⟨E,hE⟩:∃E,E=Pf 0 0 r0:=⟨_,rfl⟩
 rw [←hE] at HPS ⊢
 have HG:Hid (∃g o,A=some ⟨g,o,none⟩):=by
  obtain ⟨t,ht⟩:=hA.get hn0
  obtain ⟨g,o,e,_⟩:=hA.2 0 t ht
  exact ⟨g,o,e⟩
 clear hA he hE HAB hq0 he0
 go_enter Tryz.func96,Tryz.ntmps96
 go_upto_region 1 with fail
 rw [←hW0,←hg2,←hg1]
 clear hW0 hg1 hg2
 go_wp2_with fail
 go_loopw [7] (fun iv wr=>∃i:Nat,i≤n∧iv=.int .i64 (i:Int)∧Hid (wr=W0)) (fun iv _=>n-(intOf iv).toNat)
 case atStart=>exact ⟨0,Nat.zero_le _,rfl,h_ rfl⟩
 case round =>
  obtain ⟨i,hi,rfl,HWW⟩:=hrel
  obtain rfl:wr=W0:=HWW.out
  by_cases him:i<n
  ·have HIM:=h_ him
   have him':(i:Int)<n:=by omega
   obtain ⟨t,ht⟩:=(HA.out wr HB0.out).get him
   obtain ⟨g,o,e,x0,x1,x2,x3⟩:=(HA.out wr HB0.out).2 i t ht
   subst e
   have HT:=HEN.out i t ht
   rw [HLN.out] at HT
   obtain ⟨d,hd⟩:∃d,(t.kind==5)=d:=⟨_,rfl⟩
   have hd2:((i:Int)==(n:Int)-1)=d:=by
    rw [←hd,Bool.eq_iff_iff,beq_iff_eq,beq_iff_eq,HT]
    omega
   have hd3:(d != d)=false:=by cases d <;> rfl
   clear HT ht x1 x2 x3
   go_wp2_with fail
   go_roundw
   case rel=>exact ⟨i+1,by have:=HIM.out;omega,by go_num,h_ trivial⟩
   case measure=>have:=HIM.out;simp [intOf];omega
  ·have him':¬(i:Int)<n:=by omega
   obtain ⟨b,hbb⟩:∃b,b=wr.heap.size:=⟨_,rfl⟩
   obtain ⟨W2,hW2⟩:∃W2,W2=wr.alloc (.cells #[.slice A n c,.int .i64 (q0:Int),.int .i64 0,.int .i64 0,.int .i64 0] 144):=⟨_,rfl⟩
   have hb2:Below wr.heap.size wr W2:=by rw [hW2];exact (b_ _ wr).alloc (n_ _) _
   have HX2:=h_ (HX.out.below hb2)
   have HF2:=h_ (HF.out.below hb2)
   have HB2:=h_ (HB0.out.trans (hb2.mono HB0.out.size))
   have hbw:w.heap.size≤b:=by have:=HB0.out.size;omega
   have hg1b:g1≠b:=by omega
   have hg2b:g2≠b:=by omega
   have HP2:Hid (RdB W2 b A n c q0 0 0 0):=by rw [hW2,hbb];exact heap_alloc_new wr _
   have HC:=h_ (HPS.out W2 b HB2.out hbw HP2.out)
   have hs2:=hb2.size
   have hs12:w.heap.size≤W2.heap.size:=HB2.out.size
   clear hb2 HX HF HB0 HPS
   go_upto_region 9 with fail
   rw [←hW2,←hbb]
   clear hW2 hbb
   go_wp2_with fail
   refine HC.out.mono ?_
   rintro e w3 ⟨v,rfl,hpp,hm⟩
   have hvv:v.val=.agg #[.int .i64 v.kind,.int .i64 v.num,.string v.name,.int .i64 v.op,.slice v.A v.len v.cap,.int .i64 v.p]:=rfl
   rw [hvv]
   obtain ⟨g3,hg3⟩:∃g3,g3=w3.heap.size:=⟨_,rfl⟩
   obtain ⟨W4,hW4⟩:∃W4,W4=w3.alloc (xob v):=⟨_,rfl⟩
   have hb4:Below w3.heap.size w3 W4:=by rw [hW4];exact (b_ _ w3).alloc (n_ _) _
   have HV4:Hid (XpB W4 g3 v):=by rw [hW4,hg3];exact XpB.new w3 v
   have HX4:=h_ ((HX2.out.mv hm hg1b).below hb4)
   have HF4:=h_ ((HF2.out.mv hm hg2b).below hb4)
   have HB4:Hid (Below w.heap.size w W4):=(hm.belowB HB2.out hbw hs12).trans (hb4.mono (by have:=World.grownBy.size hm;omega))
   have HPP4:=h_ (show RP W4 W2.heap.size b n c 0 A xs v E from hpp.below hb4)
   have hs3:=World.grownBy.size hm
   have hg31:¬g3=g1:=by omega
   have hg32:¬g3=g2:=by omega
   have hbg1:¬b=g1:=Ne.symm hg1b
   have hbg2:¬b=g2:=Ne.symm hg2b
   have hg12W:g1<W2.heap.size:=by omega
   have hg22W:g2<W2.heap.size:=by omega
   unfold xob at hW4
   clear hpp hm hvv hb4 HX2 HF2 HB2 HP2 HC
   go_upto_region 10 with fail
   rw [←hW4,←hg3]
   clear hW4 hg3
   have a0:=HX4.out.c0
   have a1:=HX4.out.c1
   have a2:=HX4.out.c2
   have a3:=HX4.out.c3
   have a4:=HX4.out.c4
   have a5:=HX4.out.c5
   have f0:=HX4.out.fr 0
   have f1:=HX4.out.fr 1
   have f2:=HX4.out.fr 2
   have f3:=HX4.out.fr 3
   have f4:=HX4.out.fr 4
   have f5:=HX4.out.fr 5
   have k0:=HF4.out.c0
   have k1:=HF4.out.c1
   have j0:=HF4.out.fr 0
   have j1:=HF4.out.fr 1
   have z0:=HV4.out.c0
   have z1:=HV4.out.c1
   have z2:=HV4.out.c2
   have z3:=HV4.out.c3
   have z4:=HV4.out.c4
   have z5:=HV4.out.c5
   cases E with
   |out=>exact absurd HPP4.out (by intro h;exact h)
   |bad cc pp =>
    obtain ⟨hcc,q3,hq3,hp3⟩:=HPP4.out
    have HCC:=h_ hcc
    have hwn:(cc==0)=false:=beq_eq_false_iff_ne.2 hcc
    have y0:=hp3.c3
    have y1:=hp3.c4
    clear hp3 hcc hq3
    go_wp2_with fail
    go_region
    go_wp2_with fail
    obtain ⟨W9,hW9⟩:∃W,W=res2 W4 g1 g2 ev0 cc pp:=⟨_,rfl⟩
    have HS:XpB W9 g1 ev0:=by rw [hW9];exact res2_x HX4.out hg12 ev0 cc pp
    have HS':FtB W9 g2 (.int .i64 cc) (.int .i64 pp):=by rw [hW9];exact res2_f HF4.out hg12 ev0 cc pp
    have HP:Below w.heap.size w W9:=by rw [hW9];exact res2_below HB4.out hg1w hg2w ev0 cc pp
    unfold res2 two six at hW9
    dsimp only [ev0] at hW9
    rw [←hW9]
    clear hW9
    refine bodyPost_ret (XpB.res3 (w:=W9.drew) (v:=ev0) rfl _ rfl rfl HS HS') rfl ?_
    exact ⟨ev0,0,rfl,⟨HCC.out,rfl,rfl⟩,HP.drew⟩
   |ok x r =>
    obtain ⟨hgv,hen,q3,hq3,hdr,hp3⟩:=HPP4.out
    have r1:=hp3.c1
    have y0:=hp3.c3
    have HGV:=h_ hgv
    have HEE:=h_ (And.intro hen (And.intro hq3 hdr))
    clear hgv hen hdr hp3
    go_wp2_with fail
    go_region
    go_wp2_with fail
    obtain ⟨W9,hW9⟩:∃W,W=res2 W4 g1 g2 v 0 0:=⟨_,rfl⟩
    have HS:XpB W9 g1 v:=by rw [hW9];exact res2_x HX4.out hg12 v 0 0
    have HS':FtB W9 g2 (.int .i64 0) (.int .i64 0):=by rw [hW9];exact res2_f HF4.out hg12 v 0 0
    have HP:Below w.heap.size w W9:=by rw [hW9];exact res2_below HB4.out hg1w hg2w v 0 0
    have HQ:GV W9 w.heap.size W9.heap.size x.gx v:=by rw [hW9];exact res2_gvv HGV.out hg12W hg22W hs12 v 0 0
    unfold res2 two six at hW9
    rw [←hW9]
    clear hW9
    refine bodyPost_ret (XpB.res3 (w:=W9.drew) (v:=v) rfl _ rfl rfl HS HS') rfl ?_
    exact ⟨v,q3,rfl,⟨HQ.below (b_ _ W9).drew (n_ _),HEE.out.1,HEE.out.2.1,HEE.out.2.2⟩,HP.drew⟩
theorem xexpr_not (w:World) (b:Nat) (r:Rv) (h:RvB w b r) (hc:r.code≠0) :
  Calls Tryz.prog 76 #[.pointer (some ⟨b,0,none⟩)] w fun e w'=>e=.returned ev0.val∧RvB w' b r∧Mv b w w':=by
 obtain ⟨g1,hg1⟩:∃g1,g1=w.heap.size:=⟨_,rfl⟩
 obtain ⟨W0,hW0⟩:∃W0,W0=w.alloc (.cells #[.int .i64 0,.int .i64 0,.string ⟨#[]⟩,.int .i64 0,.slice none 0 0,.int .i64 0] 54):=⟨_,rfl⟩
 have HX:Hid (XpB W0 g1 ev0):=by rw [hW0,hg1];exact XpB.new w ev0
 have HB:Hid (Below w.heap.size w W0):=by rw [hW0];exact (b_ _ w).alloc (n_ _) _
 have HR:Hid (RvB W0 b r):=h_ (h.below HB.out)
 have hlt:=h.lt
 have hb1:b≠g1:=by omega
 have r6:=HR.out.c6
 have hc0:(r.code==0)=false:=by simpa using hc
 have hc1:(r.code != 0)=true:=by show (!(r.code==0))=true;rw [hc0];rfl
 have hg:w.heap.size≤g1:=by omega
 clear h hc
 have a0:=HX.out.c0
 have a1:=HX.out.c1
 have a2:=HX.out.c2
 have a3:=HX.out.c3
 have a4:=HX.out.c4
 have a5:=HX.out.c5
 have f0:=HX.out.fr 0
 have f1:=HX.out.fr 1
 have f2:=HX.out.fr 2
 have f3:=HX.out.fr 3
 have f4:=HX.out.fr 4
 have f5:=HX.out.fr 5
 go_enter Tryz.func76,Tryz.ntmps76
 go_upto_region 1 with fail
 rw [←hW0,←hg1]
 clear hW0 hg1
 go_wp2_with fail
 have HS:=HX.out.all ev0
 have HR9:RvB (six W0 g1 ev0) b r:=HR.out.mv (six_mv W0 g1 ev0) hb1
 have HB9:Mv b w (six W0 g1 ev0):=six_put (Mv.of b HB.out) hg ev0
 unfold six at HS HR9 HB9
 dsimp only [ev0] at HS HR9 HB9
 refine bodyPost_ret (XpB.res (v:=ev0) rfl _ rfl HS) rfl ?_
 exact ⟨rfl,HR9,HB9⟩
theorem Rep.exF {w:World} {base lo hi:Nat} {y:Option Ex} {v:EV} (h:GV w lo hi (gxO y) v) (hb:base≤lo) (h1:lo≤hi) (h2:hi≤w.heap.size):Rep w base (dvEx false y) v.cells:=by
 unfold dvEx
 obtain ⟨gx,hgx⟩:∃gx,gxO y=gx:=⟨_,rfl⟩
 rw [hgx] at h ⊢
 obtain ⟨k,n,s,o,l,p⟩:=gx
 unfold GV at h
 obtain ⟨a1,a2,a3,a4,a5,a6,a7,a8,h3⟩:=h
 refine ⟨List.range' lo (hi-lo),?_,List.nodup_range',fun g hg=>by have:=mem_range' hg;omega⟩
 have e3:txV s=.string v.name:=by rw [←a3];exact txV_data v.name
 show DvsAt w [.v (.int .i64 k),.v (.int .i64 n),.v (txV s),.v (.int .i64 o),.sub false l,.v (.int .i64 p)] _ _
 rw [e3,←a1,←a2,←a4,←a5]
 refine DvsAt.v rfl (DvsAt.v rfl (DvsAt.v rfl (DvsAt.v rfl ?_)))
 have hn:List.range' lo (hi-lo)=List.range' lo (hi-lo)++[]:=by simp
 rw [hn]
 refine DvsAt.cons ?_ (DvsAt.v rfl (DvsAt.nil w))
 unfold DvAt
 exact ⟨lo,hi,⟨v.A,v.cap,by rw [a6],by omega,a8,h1,h2,h3⟩,rfl⟩
theorem GV.none (w:World) (lo hi:Nat):GV w lo hi (gxO none) ev0:=GV.leaf w lo hi 0 0 0 0 ⟨#[]⟩
def xxF (b:Nat) (r:Rv) (E:PR) (i:Nat) (vals:Nat→Option Value) (u:Value):Prop :=  match i with|0=>u=Value.pointer (some ⟨b,0,none⟩)|1=>u=Value.pointer (some ⟨b,0,none⟩)|2=>u=Value.pointer (some ⟨b,0,none⟩)|3=>u=Value.slice r.A r.n r.c|4=>u=Value.pointer (some ⟨b,0,none⟩)|5=>u=Value.pointer (some ⟨b,0,none⟩)|6=>u=Value.pointer (some ⟨b,1,none⟩)|7=>u=Value.int .i64 (r.q:Int)|8=>∃(v:EV) (q:Nat),u=.tuple #[v.val,.int .i64 (q:Int),ftP E]|9=>∃(v:EV) (q:Nat),u=.tuple #[v.val,.int .i64 (q:Int),ftP E]∧vals 8=some (.tuple #[v.val,.int .i64 (q:Int),ftP E])|10=>∃(v:EV) (q:Nat),vals 8=some (.tuple #[v.val,.int .i64 (q:Int),ftP E])∧u=v.val|11=>∃(v:EV) (q:Nat),vals 8=some (.tuple #[v.val,.int .i64 (q:Int),ftP E])∧u=.int .i64 (q:Int)|12=>∃(v:EV) (q:Nat),vals 8=some (.tuple #[v.val,.int .i64 (q:Int),ftP E])∧u=ftP E|16=>∃(v:EV) (q:Nat),vals 8=some (.tuple #[v.val,.int .i64 (q:Int),ftP E])∧u=.int .i64 (q:Int)|_=>True
theorem xexpr_s (w:World) (b:Nat) (K:Kx) (D:Int) (m:Rs Unit) (h:XS w b K D m) :
  Calls Tryz.prog 76 #[.pointer (some ⟨b,0,none⟩)] w fun e w'=>∃(y:Option Ex) (v:EV),e=.returned v.val∧Rep w' w.heap.size (dvEx false y) v.cells∧(∀x s,m.go exprR=.ok x s→y=some x)∧XS w' b K D (m.go exprR).void∧Mv b w w':=by
 obtain ⟨g0,hg0⟩:∃g,g=w.heap.size:=⟨_,rfl⟩
 obtain ⟨W0,hW0⟩:∃W0,W0=w.alloc (.cells #[.int .i64 0,.int .i64 0,.string ⟨#[]⟩,.int .i64 0,.slice none 0 0,.int .i64 0] 54):=⟨_,rfl⟩
 have HX:Hid (XpB W0 g0 ev0):=by rw [hW0,hg0];exact XpB.new w ev0
 have HB0:Hid (Below w.heap.size w W0):=by rw [hW0];exact (b_ _ w).alloc (n_ _) _
 have hbw:=h.blt
 have hg0w:w.heap.size≤g0:=by omega
 have hg0b:g0≠b:=by omega
 have hg0W:g0<W0.heap.size:=HX.out.lt
 have HP:=h_ h
 have HP0:=h_ (h.below HB0.out)
 have a0:=HX.out.c0
 have a1:=HX.out.c1
 have a2:=HX.out.c2
 have a3:=HX.out.c3
 have a4:=HX.out.c4
 have a5:=HX.out.c5
 have f0:=HX.out.fr 0
 have f1:=HX.out.fr 1
 have f2:=HX.out.fr 2
 have f3:=HX.out.fr 3
 have f4:=HX.out.fr 4
 have f5:=HX.out.fr 5
 clear h
 cases m with
 |out=>exact absurd rfl HP.out.notOut
 |bad c p =>
  obtain ⟨r,hp1,h0,hq1,hd1,hm1⟩:=HP.out.out
  refine (xexpr_not w b r hp1 (by rw [hm1.1];exact hm1.2.2)).mono ?_
  rintro e w' ⟨rfl,k1,k2⟩
  exact ⟨none,ev0,rfl,Rep.exF (GV.none _ w.heap.size w.heap.size) (n_ _) (n_ _) (World.grownBy.size k2),fun x s e=>(by cases e),HP.out.turn k2 k1 h0 hq1 hd1 hm1,k2⟩
 |ok x s =>
  obtain ⟨r,hp1,hr0,hq1,hd1,hm1⟩:=HP0.out.out
  have HPB:=h_ hp1
  have HR1:=h_ (And.intro hq1 hd1)
  have HR0:=h_ hr0
  have HM1:=h_ hm1
  have r6:=hp1.c6
  have hcz:(r.code != 0)=false:=by rw [hm1.1];rfl
  obtain ⟨E,hE⟩:∃E,Pf 0 0 s.ts=E:=⟨_,rfl⟩
  have HEE:=h_ hE
  have HPQ:Hid (∀W,Below W0.heap.size W0 W→Calls Tryz.prog 96 #[.slice r.A r.n r.c,.int .i64 (r.q:Int)] W fun e w'=>∃(v:EV) (q:Nat),e=.returned (tupX v q E)∧PX false w' W.heap.size w'.heap.size K.n K.xs v q E∧Below W.heap.size W w'):=fun W hb=>by
   have hmm:=HM1.out
   have hrr:=HR0.out
   have:=rparseq_any W K.n K.c r.q K.A K.xs s.ts (HP0.out.at_.below hb) HP0.out.ok.ends hmm.2.1 hmm.2.2.1 HR1.out.1 (Nat.le_trans HP0.out.ok.n (by decide))
   rw [HEE.out,←hrr.1,←hrr.2.1,←hrr.2.2] at this
   refine this.mono ?_
   rintro e w' ⟨v,q,rfl,hpw,hb'⟩
   refine ⟨v,q,rfl,?_,hb'⟩
   rw [hrr.2.1] at hpw
   cases E with
   |out=>exact hpw
   |bad c p=>exact hpw
   |ok x r=>exact hpw
  clear hp1 hr0 hq1 hd1 hm1 hE
  go_enter Tryz.func76,Tryz.ntmps76
  go_upto_region 1 with fail
  rw [←hW0,←hg0]
  clear hW0 hg0
  go_wp2_with fail
  clear a0 a1 a2 a3 a4 a5 f0 f1 f2 f3 f4 f5 r6 hcz
  go_upto_region 3 with fail
  go_cut [3,4,5] from 13 to 25 (fun s3 s4 s5 wr=>∃(v:EV) (q g1 g2:Nat),s3=.pointer (some ⟨g1,0,none⟩)∧s4=.int .i64 (q:Int)∧s5=.pointer (some ⟨g2,0,none⟩)∧Hid (XFin false W0 K.n K.xs E wr v q g1 g2))
  case first =>
   refine region_mix _ _ _ (by kernel_rfl) 17 rfl (by kernel_rfl) (by kernel_rfl) (fun i=>match i with|1=>[0]|2=>[1]|3=>[2]|5=>[4]|6=>[5]|7=>[6]|8=>[3,7]|9=>[8]|10=>[9]|11=>[9]|12=>[9]|15=>[13,10,8]|16=>[11]|17=>[14,12]|_=>[]) (by kernel_rfl) (by kernel_rfl)
    (fun i=>match i with|8=>some 0|15=>some 1|17=>some 2|_=>none) (fun i=>i==13 || i==14) 2 rfl (by kernel_rfl)
    (xxF b r E) ?_ (fun p vals W=>XIv false W0 K.n K.xs E 8 13 14 p vals W)
    (XDone false W0 K.n K.xs E 13 14 16)
    (fun p vals vals' W hl hI=>hI.loc (hl _ (.inl rfl)) (hl _ (.inr rfl)) (hl _ (.inr rfl))) (XIv.zero W0) ?_ ?_ ?_ ?_ ?_
   ·intro j vals vals' u hext hF
    have hk:∀z:Value,vals 8=some z→vals' 8=some z:=fun z hz=>by rw [hext 8 (by rw [hz];simp)];exact hz
    unfold xxF at hF ⊢
    split at hF
    ·exact hF
    ·exact hF
    ·exact hF
    ·exact hF
    ·exact hF
    ·exact hF
    ·exact hF
    ·exact hF
    ·exact hF
    ·obtain ⟨v,q,h1,h2⟩:=hF;exact ⟨v,q,h1,hk _ h2⟩
    ·obtain ⟨v,q,h1,h2⟩:=hF;exact ⟨v,q,hk _ h1,h2⟩
    ·obtain ⟨v,q,h1,h2⟩:=hF;exact ⟨v,q,hk _ h1,h2⟩
    ·obtain ⟨v,q,h1,h2⟩:=hF;exact ⟨v,q,hk _ h1,h2⟩
    ·obtain ⟨v,q,h1,h2⟩:=hF;exact ⟨v,q,hk _ h1,h2⟩
    ·trivial
   ·intro i o hi hrk hal ho a vals w p hpN hI hbase hdep
    have hi':i=0∨i=1∨i=2∨i=3∨i=4∨i=5∨i=6∨i=7∨i=8∨i=9∨i=10∨i=11∨i=12∨i=13∨i=14∨i=15∨i=16:=by omega
    rcases hi' with rfl|rfl|rfl|rfl|rfl|rfl|rfl|rfl|rfl|rfl|rfl|rfl|rfl|rfl|rfl|rfl|rfl
    ·have hp:a.tmps[0]?.getD undef=Value.pointer (some ⟨b,0,none⟩):=ev_get2 (hbase 0 (by kernel_rfl))
     simp only [t_,z_,j_] at ho
     subst ho
     unfold Oper.wp
     go_simp
     exact ⟨_,rfl,rfl,rfl⟩
    ·have h0:a.tmps[14]?.getD undef=Value.pointer (some ⟨b,0,none⟩):=ev_get2 (show a.eval (.tmp 14)=Value.pointer (some ⟨b,0,none⟩) from (hdep 0 (by simp)).1)
     simp only [t_,s_,z_,j_] at ho
     subst ho
     unfold Oper.wp
     go_simp
     exact ⟨_,rfl,rfl,rfl⟩
    ·have h1:a.tmps[15]?.getD undef=Value.pointer (some ⟨b,0,none⟩):=ev_get2 (show a.eval (.tmp 15)=Value.pointer (some ⟨b,0,none⟩) from (hdep 1 (by simp)).1)
     simp only [t_,s_,z_,j_] at ho
     subst ho
     unfold Oper.wp
     go_simp
     exact ⟨_,rfl,rfl,rfl⟩
    ·have h2:a.tmps[16]?.getD undef=Value.pointer (some ⟨b,0,none⟩):=ev_get2 (show a.eval (.tmp 16)=Value.pointer (some ⟨b,0,none⟩) from (hdep 2 (by simp)).1)
     have y0:=(HPB.out.below hI.1).c0
     simp only [t_,s_,z_,j_] at ho
     subst ho
     unfold Oper.wp
     go_simp
     exact ⟨_,rfl,rfl,rfl⟩
    ·have hp:a.tmps[0]?.getD undef=Value.pointer (some ⟨b,0,none⟩):=ev_get2 (hbase 0 (by kernel_rfl))
     simp only [t_,s_,z_,j_] at ho
     subst ho
     unfold Oper.wp
     go_simp
     exact ⟨_,rfl,rfl,rfl⟩
    ·have h4:a.tmps[18]?.getD undef=Value.pointer (some ⟨b,0,none⟩):=ev_get2 (show a.eval (.tmp 18)=Value.pointer (some ⟨b,0,none⟩) from (hdep 4 (by simp)).1)
     simp only [t_,s_,z_,j_] at ho
     subst ho
     unfold Oper.wp
     go_simp
     exact ⟨_,rfl,rfl,rfl⟩
    ·have h5:a.tmps[19]?.getD undef=Value.pointer (some ⟨b,0,none⟩):=ev_get2 (show a.eval (.tmp 19)=Value.pointer (some ⟨b,0,none⟩) from (hdep 5 (by simp)).1)
     simp only [t_,s_,z_,j_] at ho
     subst ho
     unfold Oper.wp
     go_simp
     exact ⟨_,rfl,rfl,rfl⟩
    ·have h6:a.tmps[20]?.getD undef=Value.pointer (some ⟨b,1,none⟩):=ev_get2 (show a.eval (.tmp 20)=Value.pointer (some ⟨b,1,none⟩) from (hdep 6 (by simp)).1)
     have y0:=(HPB.out.below hI.1).c1
     simp only [t_,s_,z_,j_] at ho
     subst ho
     unfold Oper.wp
     go_simp
     exact ⟨_,rfl,rfl,rfl⟩
    ·cases hrk
    ·obtain ⟨v,q,h8⟩:=(hdep 8 (by simp)).1
     replace h8:a.tmps[22]?.getD undef=_:=ev_get2 h8
     have hv:=(hdep 8 (by simp)).2
     simp only [t_,s_,z_,j_] at ho
     subst ho
     unfold Oper.wp
     go_simp
     exact ⟨_,rfl,⟨v,q,rfl,by rw [hv];exact congrArg some (ev_get' h8)⟩,rfl⟩
    ·obtain ⟨v,q,h9,hv⟩:=(hdep 9 (by simp)).1
     replace h9:a.tmps[13]?.getD undef=_:=ev_get2 h9
     simp only [t_,s_,z_,j_] at ho
     subst ho
     unfold Oper.wp
     go_simp
     exact ⟨_,rfl,⟨v,q,hv,rfl⟩,rfl⟩
    ·obtain ⟨v,q,h9,hv⟩:=(hdep 9 (by simp)).1
     replace h9:a.tmps[13]?.getD undef=_:=ev_get2 h9
     simp only [t_,s_,z_,j_] at ho
     subst ho
     unfold Oper.wp
     go_simp
     exact ⟨_,rfl,⟨v,q,hv,rfl⟩,rfl⟩
    ·obtain ⟨v,q,h9,hv⟩:=(hdep 9 (by simp)).1
     replace h9:a.tmps[13]?.getD undef=_:=ev_get2 h9
     simp only [t_,s_,z_,j_] at ho
     subst ho
     unfold Oper.wp
     go_simp
     exact ⟨_,rfl,⟨v,q,hv,rfl⟩,rfl⟩
    ·cases hal
    ·cases hal
    ·cases hrk
    ·obtain ⟨v,q,hv,h11⟩:=(hdep 11 (by simp)).1
     replace h11:a.tmps[24]?.getD undef=_:=ev_get2 h11
     simp only [t_,s_,z_,j_] at ho
     subst ho
     unfold Oper.wp
     go_simp
     exact ⟨_,rfl,⟨v,q,hv,rfl⟩,rfl⟩
   ·intro i o hi hrk hal ho a vals w p hpN hI hv hcl
    have hi':i=0∨i=1∨i=2∨i=3∨i=4∨i=5∨i=6∨i=7∨i=8∨i=9∨i=10∨i=11∨i=12∨i=13∨i=14∨i=15∨i=16:=by omega
    rcases hi' with rfl|rfl|rfl|rfl|rfl|rfl|rfl|rfl|rfl|rfl|rfl|rfl|rfl|rfl|rfl|rfl|rfl
    ·cases hal
    ·cases hal
    ·cases hal
    ·cases hal
    ·cases hal
    ·cases hal
    ·cases hal
    ·cases hal
    ·cases hrk
    ·cases hal
    ·cases hal
    ·cases hal
    ·cases hal
    ·simp only [t_,s_,z_,j_] at ho
     subst ho
     unfold Oper.wp
     go_simp
     exact ⟨_,rfl,trivial,hI.alloc1 hv (by decide) (by decide)⟩
    ·simp only [t_,s_,z_,j_] at ho
     subst ho
     unfold Oper.wp
     go_simp
     exact ⟨_,rfl,trivial,hI.alloc2 hv (by decide) (by decide)⟩
    ·cases hrk
    ·cases hal
   ·intro i o r' hi hrk ho a vals w hI hbase hdep hv hcl
    have hi':i=0∨i=1∨i=2∨i=3∨i=4∨i=5∨i=6∨i=7∨i=8∨i=9∨i=10∨i=11∨i=12∨i=13∨i=14∨i=15∨i=16:=by omega
    rcases hi' with rfl|rfl|rfl|rfl|rfl|rfl|rfl|rfl|rfl|rfl|rfl|rfl|rfl|rfl|rfl|rfl|rfl
    ·cases hrk
    ·cases hrk
    ·cases hrk
    ·cases hrk
    ·cases hrk
    ·cases hrk
    ·cases hrk
    ·cases hrk
    ·obtain rfl:r'=0:=by injection hrk with hrk;exact hrk.symm
     have h3:a.tmps[17]?.getD undef=Value.slice r.A r.n r.c:=ev_get2 (show a.eval (.tmp 17)=Value.slice r.A r.n r.c from (hdep 3 (by simp)).1)
     have h7:a.tmps[21]?.getD undef=Value.int .i64 (r.q:Int):=ev_get2 (show a.eval (.tmp 21)=Value.int .i64 (r.q:Int) from (hdep 7 (by simp)).1)
     have HC:=HPQ.out w hI.1
     simp only [t_,s_,z_,j_] at ho
     subst ho
     unfold Oper.wp
     go_simp
     refine HC.mono ?_
     rintro e w' ⟨v,q,rfl,hpx,hb⟩
     exact ⟨_,rfl,⟨v,q,rfl⟩,hI.call hpx hb (by decide) (by decide)⟩
    ·cases hrk
    ·cases hrk
    ·cases hrk
    ·cases hrk
    ·cases hrk
    ·cases hrk
    ·obtain rfl:r'=1:=by injection hrk with hrk;exact hrk.symm
     obtain ⟨v,q,hv10,h10⟩:=(hdep 10 (by simp)).1
     replace h10:a.tmps[23]?.getD undef=v.val:=ev_get2 h10
     have hva:=(hdep 13 (by simp)).2
     obtain ⟨g1,hg1,hw1,hx1⟩:=hI.fa hva
     replace hg1:a.tmps[3]?.getD undef=.pointer (some ⟨g1,0,none⟩):=ev_get2 hg1
     have hvv:v.val=.agg #[.int .i64 v.kind,.int .i64 v.num,.string v.name,.int .i64 v.op,.slice v.A v.len v.cap,.int .i64 v.p]:=rfl
     rw [hvv] at h10
     have hxx:=hx1 (n_ _)
     have c0:=hxx.c0
     have c1:=hxx.c1
     have c2:=hxx.c2
     have c3:=hxx.c3
     have c4:=hxx.c4
     have c5:=hxx.c5
     have f0:=hxx.fr 0
     have f1:=hxx.fr 1
     have f2:=hxx.fr 2
     have f3:=hxx.fr 3
     have f4:=hxx.fr 4
     have f5:=hxx.fr 5
     simp only [t_,s_,z_,j_] at ho
     subst ho
     unfold Oper.wp
     go_simp
     exact ⟨.tuple #[],rfl,trivial,hI.store1 hv10 (by rw [hva];exact congrArg some (ev_get' hg1)) (by decide) (by decide) (by decide)⟩
    ·cases hrk
   ·intro o ho a vals w hI hbase hdep hall hF
    have hva:=(hdep 14 (by simp)).2
    obtain ⟨g2,hg2,hw2,hf2⟩:=hI.fb hva
    obtain ⟨v,q,hv10,h12⟩:=(hdep 12 (by simp)).1
    have hva':vals 14=some (pv g2):=by rw [hva,hg2]
    obtain ⟨g1,hg1,hfin⟩:=hI.fin hva' hv10
    replace h12:a.tmps[25]?.getD undef=_:=ev_get2 h12
    replace hg2:a.tmps[5]?.getD undef=_:=ev_get2 hg2
    unfold pv at hg2
    unfold ftP ftV at h12
    have hF18:=fun u hu=>hF 16 u hu
    have k0:=hf2.c0
    have k1:=hf2.c1
    have j0:=hf2.fr 0
    have j1:=hf2.fr 1
    obtain ⟨c,hc⟩:∃c,E.code=c:=⟨_,rfl⟩
    obtain ⟨pp,hpp⟩:∃pp,E.pt=pp:=⟨_,rfl⟩
    rw [hc,hpp] at h12 hfin
    clear hc hpp
    simp only [t_,s_,z_,j_] at ho
    subst ho
    unfold Oper.wp
    go_simp
    refine ⟨.tuple #[],rfl,fun vals' hv'=>?_⟩
    obtain ⟨u,hu⟩:=x_ (Option.isSome_iff_ne_none.2 (hall 16 (by omega)))
    obtain ⟨v',q',hv2,rfl⟩:=hF18 u hu
    rw [hv10] at hv2
    obtain ⟨rfl,rfl⟩:=tup_inj (E:=E) hv2
    exact ⟨v,q,g1,g2,by rw [hv' 13 (by omega)];exact hg1,by rw [hv' 14 (by omega)];exact hva',by rw [hv' 16 (by omega)];exact hu,h_ hfin⟩
   ·intro vals W hF hall
    obtain ⟨v,q,g1,g2,h13,h14,h16,hfin⟩:=hF
    unfold pv at h13 h14
    obtain ⟨v0,h0⟩:=x_ (hall 0 (by omega))
    obtain ⟨v1,h1⟩:=x_ (hall 1 (by omega))
    obtain ⟨v2,h2⟩:=x_ (hall 2 (by omega))
    obtain ⟨v3,h3⟩:=x_ (hall 3 (by omega))
    obtain ⟨v4,h4⟩:=x_ (hall 4 (by omega))
    obtain ⟨v5,h5⟩:=x_ (hall 5 (by omega))
    obtain ⟨v6,h6⟩:=x_ (hall 6 (by omega))
    obtain ⟨v7,h7⟩:=x_ (hall 7 (by omega))
    obtain ⟨v8,h8⟩:=x_ (hall 8 (by omega))
    obtain ⟨v9,h9⟩:=x_ (hall 9 (by omega))
    obtain ⟨v10,h10⟩:=x_ (hall 10 (by omega))
    obtain ⟨v11,h11⟩:=x_ (hall 11 (by omega))
    obtain ⟨v12,h12⟩:=x_ (hall 12 (by omega))
    obtain ⟨v15,h15⟩:=x_ (hall 15 (by omega))
    obtain ⟨v17,h17⟩:=x_ (hall 17 (by omega))
    simp only [puts,put1,show List.range (17+1)=[0,1,2,3,4,5,6,7,8,9,10,11,12,13,14,15,16,17] from rfl,List.foldl_cons,List.foldl_nil,h0,h1,h2,h3,h4,h5,h6,h7,h8,h9,h10,h11,h12,h13,h14,h15,h16,h17,t_,s_,z_,Act.put,List.setIfInBounds_toArray,List.set_cons_zero,List.set_cons_succ]
    clear h0 h1 h2 h3 h4 h5 h6 h7 h8 h9 h10 h11 h12 h13 h14 h15 h16 h17 hall
    go_wp2_with fail
    go_meet
    exact ⟨v,q,g1,g2,rfl,rfl,rfl,hfin⟩
  case rest =>
  obtain ⟨v,q,g1,g2,rfl,rfl,rfl,HFI⟩:=hcut
  obtain ⟨hx1,hf2,hg12,hg1w,hg2w,hbr,lo,hi,hlo,hlh,hhi,hpx,hl1,hl2⟩:=HFI.out
  have HX1:=h_ hx1
  have HF2:=h_ hf2
  have HBR:=h_ hbr
  have HPX:=h_ hpx
  have HXR:=h_ (HX.out.below hbr)
  have HPR:=h_ (HP0.out.below hbr)
  have HPC:=h_ (HPB.out.below hbr)
  have HMR:Hid (Mv b w wc):=Mv.of b (HB0.out.trans (hbr.mono HB0.out.size))
  have hg1b:g1≠b:=by omega
  have hg2b:g2≠b:=by omega
  have hg01:g0≠g1:=by omega
  have hg02:g0≠g2:=by omega
  have n1:¬g1=g0:=by omega
  have n2:¬g2=g0:=by omega
  have n3:¬b=g0:=by omega
  have n4:¬g1=b:=by omega
  have n5:¬g0=b:=by omega
  have n6:¬g2=b:=by omega
  have a0:=HXR.out.c0
  have a1:=HXR.out.c1
  have a2:=HXR.out.c2
  have a3:=HXR.out.c3
  have a4:=HXR.out.c4
  have a5:=HXR.out.c5
  have f0:=HXR.out.fr 0
  have f1:=HXR.out.fr 1
  have f2:=HXR.out.fr 2
  have f3:=HXR.out.fr 3
  have f4:=HXR.out.fr 4
  have f5:=HXR.out.fr 5
  have k0:=HF2.out.c0
  have k1:=HF2.out.c1
  have z0:=HX1.out.c0
  have z1:=HX1.out.c1
  have z2:=HX1.out.c2
  have z3:=HX1.out.c3
  have z4:=HX1.out.c4
  have z5:=HX1.out.c5
  have r1:=HPC.out.c1
  have r6:=HPC.out.c6
  have r7:=HPC.out.c7
  have e1:=HPC.out.fr 1
  have e6:=HPC.out.fr 6
  have e7:=HPC.out.fr 7
  have hg0wr:g0<wc.heap.size:=HXR.out.lt
  cases E with
  |out=>exact absurd HPX.out (by intro h;exact h)
  |bad c p =>
   have HCC:=h_ HPX.out.1
   have hwn:(c != 0)=true:=by simpa using HPX.out.1
   have HXE:Hid (exprR s=.bad c p):=by show _=_;unfold exprR;rw [HEE.out]
   simp only [PR.code,PR.pt] at k0 k1
   have HPF:=h_ (HPC.out.setF c p)
   have HMF:Hid (Mv b wc ((wc.setCell ⟨b,6,none⟩ (.int .i64 c)).setCell ⟨b,7,none⟩ (.int .i64 p))):=((Mv.refl b wc).set 6 _).set 7 _
   clear HFI hx1 hf2 hbr hpx z0 z1 z2 z3 z4 z5 r1 e1
   go_wp2_with fail
   have HXF:=HXR.out.mv HMF.out n5
   have HPT:=HPR.out.turn (r:={ r with code:=c,pos:=p }) (m':=.bad c p) HMF.out HPF.out HR0.out HR1.out.1 HR1.out.2 ⟨rfl,rfl,HCC.out⟩
   have HMW:=HMR.out.trans HMF.out
   obtain ⟨W8,hW8⟩:∃W8,W8=(wc.setCell ⟨b,6,none⟩ (.int .i64 c)).setCell ⟨b,7,none⟩ (.int .i64 p):=⟨_,rfl⟩
   rw [←hW8] at HXF HPT HMW ⊢
   have HS:=HXF.all ev0
   have HM:=six_put (b:=b) HMW hg0w ev0
   have HPP:=HPT.ch (Ch.of_mv (six_mv W8 g0 ev0)) (fun k e=>by have e':k=g0:=e;omega)
   unfold six at HS HM HPP
   dsimp only [ev0] at HS HM HPP
   refine bodyPost_ret (XpB.res (v:=ev0) rfl _ rfl HS) rfl ?_
   refine ⟨none,ev0,rfl,Rep.exF (GV.none _ w.heap.size w.heap.size) (n_ _) (n_ _) HM.size,fun x s' e=>?_,?_,HM⟩
   ·have e':exprR s=.ok x s':=e
    rw [HXE.out] at e'
    cases e'
   ·show XS _ b K D (exprR s).void
    rw [HXE.out]
    exact HPP
  |ok x' r' =>
   have hwn:((0:Int) != 0)=false:=rfl
   have HXE:Hid (exprR s=.ok x' ⟨r',s.n,s.m,s.a⟩):=by show _=_;unfold exprR;rw [HEE.out]
   simp only [PR.code,PR.pt] at k0 k1
   have HPF:=h_ (HPC.out.setq q)
   have HMF:Hid (Mv b wc (wc.setCell ⟨b,1,none⟩ (.int .i64 (q:Int)))):=(Mv.refl b wc).set 1 _
   clear HFI hx1 hf2 hbr hpx r6 e6 r7 e7
   go_wp2_with fail
   have HXF:=HXR.out.mv HMF.out n5
   have HX1F:=HX1.out.mv HMF.out hg1b
   have hmm:=HM1.out
   have HPT:=HPR.out.turn (r:={ r with q:=q }) (m':=.ok () ⟨r',s.n,s.m,s.a⟩) HMF.out HPF.out HR0.out HPX.out.2.2.1 HR1.out.2 ⟨hmm.1,HPX.out.2.2.2,HPX.out.2.1,hmm.2.2.2⟩
   have HMW:=HMR.out.trans HMF.out
   have HGW:GV (wc.setCell ⟨b,1,none⟩ (.int .i64 (q:Int))) lo hi x'.gx v:=GV.same (fun k k1 k2=>HMF.out.block (by omega) (by omega)) HPX.out.1
   have hsz:(wc.setCell ⟨b,1,none⟩ (.int .i64 (q:Int))).heap.size=wc.heap.size:=by simp
   obtain ⟨W8,hW8⟩:∃W8,W8=wc.setCell ⟨b,1,none⟩ (.int .i64 (q:Int)):=⟨_,rfl⟩
   rw [←hW8] at HXF HPT HMW HGW hsz ⊢
   have HS:=HXF.all v
   have HM:=six_put (b:=b) HMW hg0w v
   have HPP:=HPT.ch (Ch.of_mv (six_mv W8 g0 v)) (fun k e=>by have e':k=g0:=e;omega)
   have HGG:GV (six W8 g0 v) lo hi x'.gx v:=GV.same (fun k k1 k2=>(six_mv W8 g0 v).block (by omega) (by omega)) HGW
   have hsz2:=six_size W8 g0 v
   have HRR:Rep (six W8 g0 v) w.heap.size (dvEx false (some x')) v.cells:=Rep.exF (y:=some x') HGG (by have:=HB0.out.size;omega) hlh (by omega)
   unfold six at HS HM HPP HRR
   refine bodyPost_ret (XpB.res (v:=v) rfl _ rfl HS) rfl ?_
   refine ⟨some x',v,rfl,HRR,fun x s' e=>congrArg some (Rs.ok.inj (HXE.out.symm.trans e)).1,?_,HM⟩
   ·show XS _ b K D (exprR s).void
    rw [HXE.out]
    exact HPP
end Go.Proofs.YtcddbfdbhjkjgaaGreatDoor
