import Derived.Test.YtocecpghoncmgaaGreatDoorQh
import Derived.Test.YtocecpghoncmgaaGreatDoorQLkJ
import Derived.StillTailTactics
import Derived.Test.YtocecpghoncmgaaGreatDoorQPkA
set_option maxHeartbeats 12800000
set_option maxRecDepth 20000
namespace Go.Proofs.YtocecpghoncmgaaGreatDoor
open Go.RowKit
theorem kids_ok {x:GN} {e:Nat} (h:okN e x=true):∀m∈(match x with|.mk _ _ _ _ _ _ mo _ _=>mo),m.kind=3->0<=m.wait:=by
 cases e with
 |zero=>rw [okN] at h;cases h
 |succ d =>
  obtain ⟨k,nm,ini,dft,en,le,mo,ks,p⟩:=x;rw [okN,Bool.and_eq_true] at h;obtain ⟨_,h⟩:=h;intro m hm hk;simp only at hm
  split at h
  ·simp only [Bool.and_eq_true,List.isEmpty_iff] at h;rw [h.1.2] at hm;cases hm
  ·simp only [Bool.and_eq_true] at h;have h1:=List.all_eq_true.1 h.1.2 m hm;unfold okM at h1;simp only [Bool.and_eq_true] at h1;have h2:=h1.1.1.1;unfold trig at h2;rw [hk] at h2;simp at h2;exact h2.2
structure LNm (w0 w wr:World) (b bM:Nat) (cs:List Value) (f:Int×Int) (fm:List UInt8->Option Nat) (n:Nat):Prop where
 bl:Below w0.heap.size w0 wr
 ch:Ch (λ k=>k=b∨k=bM) w wr
 c:CB wr b 69 (cs++[.int .i64 f.1,.int .i64 f.2])
 m:IdxAt wr bM n fm
theorem LNm.below {w0 w wr wr':World} {b bM:Nat} {cs:List Value} {f:Int×Int} {fm:List UInt8->Option Nat} {n:Nat} (h:LNm w0 w wr b bM cs f fm n) (hb:Below wr.heap.size wr wr'):LNm w0 w wr' b bM cs f fm n :=
 ⟨h.bl.trans (hb.mono h.bl.size),h.ch.trans (Ch.of_below hb),h.c.below hb,h.m.same (hb.block bM h.m.lt)⟩
theorem LNm.add {w0 w wr:World} {b bM:Nat} {cs:List Value} {f:Int×Int} {fm:List UInt8->Option Nat} {n:Nat} (h:LNm w0 w wr b bM cs f fm n) (hbm:b≠bM) (lm:w0.heap.size<=bM) (s:ByteArray) (i:Nat) (hs:s.size<=140737488351232) (hn:n<=1000000) (hi:i<=1000000) :
  Calls Tryz.prog 49 #[.map (some bM),.string s,.int .i64 (i:Int)] wr λ e w'=>e=.returned (.bool (fm s.data.toList).isNone)/\LNm w0 w w' b bM cs f (λ t=>match fm t with|some j=>some j|none=>if t=s.data.toList then some i else none) (n+1)/\Mv bM wr w':=by
 refine (iadd_any wr bM n fm s i h.m (by unfold maxLen;omega) (by unfold maxLen;omega) hi).mono ?_;rintro e w' ⟨rfl,h1,h2⟩;exact ⟨rfl,⟨h2.belowB h.bl lm h.bl.size,h.ch.trans ((Ch.of_mv h2).mono (λ _ _ e=>.inr e)),h.c.mv h2 hbm,h1⟩,h2⟩
theorem LNm.req {w0 w wr:World} {b bM:Nat} {l s v1 v2:Value} {bV bP:Nat} {f:Int×Int} {fm:List UInt8->Option Nat} {n:Nat} (h:LNm w0 w wr b bM [l,s,.map (some bV),.map (some bP)] f fm n) (hbm:b≠bM) (lb:w0.heap.size<=b) (q:Bool) (c p:Int) :
  Calls Tryz.prog 48 #[.pointer (some ⟨b,4,none⟩),.bool q,.int .i64 c,.int .i64 p] wr λ e w'=>e=.returned (.tuple #[])/\LNm w0 w w' b bM [l,s,.map (some bV),.map (some bP)] (adv f (if q=true then [] else [(c,p)])) fm n/\Mv b wr w':=by
 refine (lrequire_any w0 wr wr b ⟨l,s,bV,bP⟩ f q c p ⟨h.bl,Mv.refl b wr,h.c⟩ lb).mono ?_;rintro e w' ⟨rfl,h1,h2⟩;exact ⟨rfl,⟨h1.1,h.ch.trans ((Ch.of_mv h2).mono (λ _ _ e=>.inl e)),h1.2.2,h.m.same (h2.block h.m.lt (λ e=>hbm e.symm))⟩,h2⟩
theorem lchart_any (w0 w:World) (b gl gs cl cS bV bP:Nat) (L:List GN) (F:List Spt) (vs:List SyVar) (A:Option Addr) (n c:Nat)
  (hc:CB w b 69 [.slice (some ⟨gl,0,none⟩) L.length cl,.slice (some ⟨gs,0,none⟩) F.length cS,.map (some bV),.map (some bP),.int .i64 0,.int .i64 0]) (hb:Below w0.heap.size w0 w) (lb:w0.heap.size<=b) (lV:w0.heap.size<=bV) (lP:w0.heap.size<=bP) (hd1:gl≠b/\gl≠bV/\gl≠bP) (hd2:gs≠b/\gs≠bV/\gs≠bP) (hd3:b≠bV/\b≠bP/\bV≠bP)
  (hL:NdR w0 w gl L) (hS:SpR w gs F) (hV:IdxAt w bV 0 (λ _=>none)) (hP:IdxAt w bP 0 (λ _=>none)) (hf:FitL L F) (hfo:Fo F) (hlen:L.length<=64) (hok:∀x∈L,∃e,okN e x=true) (hrg:∀x∈L,x.rng)
  (hx:DxAt w0 (dvVars vs) (.slice A n c)) (hvl:vs.length<=1000000) (hvr:∀v∈vs,v.rng) :
  Calls Tryz.prog 26 #[.pointer (some ⟨b,0,none⟩),.slice A n c] w λ e w'=>e=.returned (.tuple #[])/\∃f:Int×Int,f=adv (0,0) (dbL F 0 L++(dbV [] vs++owL (vs.map (·.name)) F 0 L))/\CB w' b 69 [.slice (some ⟨gl,0,none⟩) L.length cl,.slice (some ⟨gs,0,none⟩) F.length cS,.map (some bV),.map (some bP),.int .i64 f.1,.int .i64 f.2]/\Below w0.heap.size w0 w'/\Ch (λ k=>k=b∨k=bP∨k=bV) w w':=by
 obtain ⟨hvn,hvm⟩:vs.length=n/\n<=9223372036854775807:=by
  obtain ⟨A',c',e,h1,h2⟩:=DxAt.slice (show DxAt w0 (.row 73 3 vs.length (vs.flatMap dvVar)) (.slice A n c) from hx);injection e with _ e _
  have:maxLen<=9223372036854775807:=by decide
  exact ⟨e.symm,by omega⟩
 have HND:=h_ (λ (wr:World) (S:Nat->Prop) (h:Ch S w wr) (hn:¬S gl)=>hL.same h.size (h.block gl hL.lt hn));have HSP:=h_ (λ (wr:World) (S:Nat->Prop) (h:Ch S w wr) (hn:¬S gs)=>hS.same h.size (h.block gs hS.lt hn));have HIV:=h_ (λ (wr:World) (S:Nat->Prop) (h:Ch S w wr) (hn:¬S bV)=>hV.same (h.block bV hV.lt hn));have HVE:=h_ (λ (i:Nat) (a:SyVar) (ha:vs[i]?=some a)=>DxAt.elem (f:=dvVar) (k:=3) dvVar_len (by decide) (show DxAt w0 (.row 73 3 vs.length (vs.flatMap dvVar)) (.slice A n c) from hx) ha);have HD:=h_ (And.intro hd1 (And.intro hd2 hd3));have HLB:=h_ (And.intro lb (And.intro lV lP));have HFF:=h_ (And.intro hf (And.intro hfo (And.intro hlen (And.intro hok hrg))));have HVR:=h_ hvr;have HVL:=h_ hvl;have HVN:=h_ hvn;have HVM:=h_ hvm
 obtain ⟨N,hN⟩:∃N,L.length=N:=⟨_,rfl⟩
 have HN:=h_ hN
 have HN64:Hid (N<=64):=by rw [<-hN];exact hlen
 rw [hN] at hc ⊢
 obtain ⟨NF,hNF⟩:∃N,F.length=N:=⟨_,rfl⟩
 have HNF:=h_ hNF;rw [hNF] at hc ⊢
 obtain ⟨CS,hCS⟩:∃C:List Value,C=[.slice (some ⟨gl,0,none⟩) N cl,.slice (some ⟨gs,0,none⟩) NF cS,.map (some bV),.map (some bP)]:=⟨_,rfl⟩
 have HM0:Hid (LNm w0 w w b bP CS (0,0) (findN (F.take 0)) 0):=⟨hb,Ch.refl _ w,by rw [hCS];exact hc,by obtain ⟨D,h1,h2,h3⟩:=hP;exact ⟨D,h1,h2,h3⟩⟩
 have x0:=hc.c 0 rfl;clear hc hb lb lV lP hd1 hd2 hd3 hL hS hV hP hf hfo hlen hok hrg hx hvl hvr hvn hvm hN hNF;go_enter Tryz.func26,Tryz.ntmps26;go_wp2_with fail;clear x0
 go_loopw [18] (λ iv wr=>∃(i:Nat) (fi:Int×Int),i<=N/\iv=.int .i64 (i:Int)/\Hid (LNm w0 w wr b bP CS fi (findN (F.take i)) i/\adv fi (dbL F i (L.drop i))=adv (0,0) (dbL F 0 L))) (λ iv _=>N-(intOf iv).toNat)
 case atStart=>exact ⟨0,(0,0),Nat.zero_le _,rfl,HM0.out,by rw [List.drop_zero]⟩
 case round =>
  obtain ⟨i,fi,hi,rfl,HM⟩:=hrel;clear HM0
  by_cases him:i<N
  ·have him':(i:Int)<N:=by omega
   have HIM:=h_ him
   obtain ⟨x,hx⟩:∃x,L[i]?=some x:=⟨_,List.getElem?_eq_getElem (by rw [HN.out];exact him)⟩
   have hxr:=HFF.out.2.2.2.2 x (List.mem_of_getElem? hx);obtain ⟨sp,hsp,_,hsn⟩:=HFF.out.1.at_ hx;obtain ⟨xs,hdx,hyc⟩:=(HND.out wr _ HM.out.1.ch (by have:=HD.out.1;exact λ e=>by rcases e with e|e <;> simp_all)).at_ i x hx
   have HDR:Hid (dbL F i (L.drop i)=(if decide (findN F x.nm=some i)=true then [] else [(24,x.p)])++dbL F (i+1) (L.drop (i+1))):=by
    show _=_;rw [drop_at hx,dbL]
   have HFT:Hid (∀t,findN (F.take (i+1)) t=match findN (F.take i) t with|some j=>some j|none=>if t=x.nm then some i else none):=λ t=>by
    rw [find_take t i sp hsp,hsn]
    cases findN (F.take i) t with
    |some j=>rfl
    |none =>
     show (if x.nm=t then some i else none)=(if t=x.nm then some i else none)
     by_cases e:x.nm=t
     ·rw [if_pos e,if_pos e.symm]
     ·rw [if_neg e,if_neg (λ h=>e h.symm)]
   have HFM:Hid (decide (findN F x.nm=some i)=(findN (F.take i) x.nm).isNone):=by
    show _=_;have h1:=find_mono i sp hsp hsn
    cases hq:findN (F.take i) x.nm with
    |none=>exact decide_eq_true (h1.2 hq)
    |some j=>exact decide_eq_false (λ e=>by rw [h1.1 e] at hq;cases hq)
   obtain ⟨k,nm,ini,dft,en,le,mo,ks,p⟩:=x;obtain ⟨A1,A2,A3,A4,c1,c2,c3,c4,rfl,_⟩:=node_v hdx;obtain ⟨N0,hN0⟩:=str_of nm;obtain ⟨I0,hI0⟩:=str_of ini;obtain ⟨D0,hD0⟩:=str_of dft;rw [GN.rng] at hxr;have hNL:N0.data.toList=nm:=toArr hN0
   have hNS:N0.size<=140737488351232:=by
    have h1:=hxr.1;rw [<-hNL] at h1;exact h1
   rw [hN0,hI0,hD0] at hyc;have u0:=hyc 0 _ rfl;have u1:=hyc 1 _ rfl;have u2:=hyc 2 _ rfl;have u3:=hyc 3 _ rfl;have u4:=hyc 4 _ rfl;have u5:=hyc 5 _ rfl;have u6:=hyc 6 _ rfl;have u7:=hyc 7 _ rfl;have u8:=hyc 8 _ rfl
   obtain ⟨n1,hn1⟩:∃n,en.length=n:=⟨_,rfl⟩
   obtain ⟨n2,hn2⟩:∃n,le.length=n:=⟨_,rfl⟩
   obtain ⟨n3,hn3⟩:∃n,mo.length=n:=⟨_,rfl⟩
   obtain ⟨n4,hn4⟩:∃n,ks.length=n:=⟨_,rfl⟩
   rw [hn1] at u4;rw [hn2] at u5;rw [hn3] at u6;rw [hn4] at u7;rw [Nat.add_zero] at u0
   obtain ⟨W5,hW5⟩:∃W,W=wr.alloc (.cells #[.int .i64 k,.string N0,.string I0,.string D0,.slice A1 n1 c1,.slice A2 n2 c2,.slice A3 n3 c3,.slice A4 n4 c4,.int .i64 p] 27):=⟨_,rfl⟩
   obtain ⟨g5,hg5⟩:∃g,g=wr.heap.size:=⟨_,rfl⟩
   have hal5:Below wr.heap.size wr W5:=by rw [hW5];exact (b_ _ wr).alloc (n_ _) _
   have HX5:Hid (CB W5 g5 27 [.int .i64 k,.string N0,.string I0,.string D0,.slice A1 n1 c1,.slice A2 n2 c2,.slice A3 n3 c3,.slice A4 n4 c4,.int .i64 p]):=by rw [hW5,hg5];exact CB.new wr _ [.int .i64 k,.string N0,.string I0,.string D0,.slice A1 n1 c1,.slice A2 n2 c2,.slice A3 n3 c3,.slice A4 n4 c4,.int .i64 p]
   have hgb:g5≠b/\g5≠bP:=by have h1:=HM.out.1.c.lt;have h2:=HM.out.1.m.lt;rw [hg5];exact ⟨λ e=>by omega,λ e=>by omega⟩
   have HGB:=h_ hgb;have HM5:=h_ (HM.out.1.below hal5)
   obtain ⟨q,hq⟩:∃q,(findN (F.take i) nm).isNone=q:=⟨_,rfl⟩
   have HAd:Hid (Calls Tryz.prog 49 #[.map (some bP),.string N0,.int .i64 (i:Int)] W5.drew λ e w'=>e=.returned (.bool q)/\(w'.cell? ⟨b,3,none⟩=some (.map (some bP))/\w'.cell? ⟨g5,1,none⟩=some (.string N0)/\w'.cell? ⟨g5,8,none⟩=some (.int .i64 p))/\Hid (LNm w0 w w' b bP CS fi (findN (F.take (i+1))) (i+1)/\CB w' g5 27 [.int .i64 k,.string N0,.string I0,.string D0,.slice A1 n1 c1,.slice A2 n2 c2,.slice A3 n3 c3,.slice A4 n4 c4,.int .i64 p])):=by
    have hd:Below W5.heap.size W5 W5.drew:=(b_ _ W5).drew;have h1:=(HM5.out.below hd).add HD.out.2.2.2.1 HLB.out.2.2 N0 i hNS (by have:=HIM.out;have:=HN64.out;omega) (by have:=HIM.out;have:=HN64.out;omega);rw [hNL,hq] at h1;refine h1.mono ?_;rintro e w' ⟨rfl,h2,h3⟩;have c:=(HX5.out.drew).mv h3 HGB.out.2;have hcb:=h2.c;rw [hCS] at hcb;refine ⟨rfl,⟨hcb.c 3 rfl,c.c 1 rfl,c.c 8 rfl⟩,⟨h2.bl,h2.ch,h2.c,?_⟩,c⟩;obtain ⟨D,e1,e2,e3⟩:=h2.m;exact ⟨D,e1,e2,λ s=>by rw [HFT.out s];exact e3 s⟩
   have HRQ:Hid (∀w6:World,Hid (LNm w0 w w6 b bP CS fi (findN (F.take (i+1))) (i+1)/\CB w6 g5 27 [.int .i64 k,.string N0,.string I0,.string D0,.slice A1 n1 c1,.slice A2 n2 c2,.slice A3 n3 c3,.slice A4 n4 c4,.int .i64 p])->Calls Tryz.prog 48 #[.pointer (some ⟨b,4,none⟩),.bool q,.int .i64 24,.int .i64 p] w6 λ e w'=>e=.returned (.tuple #[])/\(w'.cell? ⟨b,3,none⟩=some (.map (some bP))/\w'.cell? ⟨g5,1,none⟩=some (.string N0)/\w'.cell? ⟨g5,8,none⟩=some (.int .i64 p))/\Hid (LNm w0 w w' b bP CS (adv fi (if q=true then [] else [(24,p)])) (findN (F.take (i+1))) (i+1))):=by
    rintro w6 ⟨h1,h2⟩;rw [hCS] at h1 ⊢;refine (h1.req (v1:=.bool true) (v2:=.bool true) HD.out.2.2.2.1 HLB.out.1 q 24 p).mono ?_;rintro e w' ⟨rfl,h3,h4⟩;have c:=h2.mv h4 HGB.out.1;exact ⟨rfl,⟨h3.c.c 3 rfl,c.c 1 rfl,c.c 8 rfl⟩,h3⟩
   have HT2:Hid (adv (adv fi (if q=true then [] else [(24,p)])) (dbL F (i+1) (L.drop (i+1)))=adv (0,0) (dbL F 0 L)):=by
    show _=_;rw [<-HM.out.2,HDR.out,HFM.out];show _=adv fi ((if (findN (F.take i) nm).isNone=true then [] else [((24:Int),p)])++_)
    rw [hq,adv_app fi _ (λ x hx=>by
     split at hx
     ·cases hx
     ·rw [List.mem_singleton.1 hx];simp)]
   have z1:=HX5.out.c 1 rfl;have z8:=HX5.out.c 8 rfl
   have y3:W5.cell? ⟨b,3,none⟩=some (.map (some bP)):=by have h1:=HM5.out.c;rw [hCS] at h1;exact h1.c 3 rfl
   clear hx hxr hsp hsn hdx hyc hN0 hI0 hD0 hNL hNS hn1 hn2 hn3 hn4 hal5 hgb hq HM HDR HFT HFM hi;go_upto_region 3 with fail;rw [<-hW5,<-hg5];clear hW5 hg5 u0 u1 u2 u3 u4 u5 u6 u7 u8
   go_region_held3 (λ W=>W.cell? ⟨b,3,none⟩=some (.map (some bP))/\W.cell? ⟨g5,1,none⟩=some (.string N0)/\W.cell? ⟨g5,8,none⟩=some (.int .i64 p)) (go_keep) (first|(go_at_call 49;refine HAd.out.mono ?_;rintro e w5 ⟨rfl,⟨x1,x2,x3⟩,HQ5⟩)|(go_at_call 48;refine (HRQ.out _ HQ5).mono ?_;rintro e w6 ⟨rfl,⟨v1,v2,v3⟩,HF6⟩))
   all_goals
    have HF7:=h_ (And.intro HF6.out HT2.out);clear x1 x2 x3 v1 v2 v3 HQ5 HF6 HAd HRQ HT2 z1 z8 y3 HX5 HM5;go_wp2_with fail
    go_roundw
    case rel=>exact ⟨i+1,_,by have:=HIM.out;omega,by have h1:=HIM.out;have h2:=HN64.out;rw [Go.IntWalk.wrap64_in _ ⟨by omega,by omega⟩];rfl,HF7⟩
    case measure=>have h1:=HIM.out;have h2:=HN64.out;rw [Go.IntWalk.wrap64_in _ ⟨by omega,by omega⟩];simp [intOf];omega
  ·have him':¬(i:Int)<N:=by omega
   have hiN:i=N:=by omega
   have HA1:Hid (LNm w0 w wr b bP CS fi (findN F) N/\fi=adv (0,0) (dbL F 0 L)):=by
    obtain ⟨h1,h2⟩:=HM.out;have hnl:=HN.out;have hfl:=HFF.out.1.len;rw [hiN,List.take_of_length_le (by omega)] at h1;rw [hiN,drop_none (by omega)] at h2;rw [show dbL F N []=[] from rfl,adv_nil] at h2;exact ⟨h1,h2⟩
   clear HM hi him hiN;go_wp2_with fail;clear him'
   obtain ⟨f1,hf1⟩:∃f,f=fi:=⟨_,rfl⟩
   rw [<-hf1] at HA1;clear hf1
   obtain ⟨wA,hwA⟩:∃W,W=wr:=⟨_,rfl⟩
   subst hwA
   have HB0:Hid (LNm w0 wA wA b bV CS f1 (λ _=>none) 0):=⟨HA1.out.1.bl,Ch.refl _ wA,HA1.out.1.c,HIV.out wA _ HA1.out.1.ch (λ e=>by have:=HD.out.2.2;rcases e with e|e <;> simp_all)⟩
   go_loopw [41] (λ iv wr=>∃(i:Nat) (fi:Int×Int) (fv:List UInt8->Option Nat),i<=n/\iv=.int .i64 (i:Int)/\Hid (LNm w0 wA wr b bV CS fi fv i/\(∀s,(fv s).isSome=((vs.take i).map (·.name)).contains s)/\adv fi (dbV ((vs.take i).map (·.name)) (vs.drop i))=adv f1 (dbV [] vs))) (λ iv _=>n-(intOf iv).toNat)
   case atStart=>exact ⟨0,f1,_,Nat.zero_le _,rfl,HB0.out,(λ s=>rfl),by rw [List.drop_zero];rfl⟩
   case round =>
    obtain ⟨i,fi,fv,hi,rfl,HM⟩:=hrel;clear HB0
    by_cases him:i<n
    ·have him':(i:Int)<n:=by omega
     have HIM:=h_ him
     obtain ⟨x,hx⟩:∃x,vs[i]?=some x:=⟨_,List.getElem?_eq_getElem (by rw [HVN.out];exact him)⟩
     obtain ⟨g,og,c',ys,hv,_,_,hg,hy,_,hyc⟩:=HVE.out i x hx;rw [HVN.out] at hv
     obtain rfl:A=some ⟨g,og,none⟩:=by injection hv
     obtain rfl:=var_vals' hy;have hxr:=HVR.out x (List.mem_of_getElem? hx);obtain ⟨N0,hN0⟩:=str_of x.name;have hNL:N0.data.toList=x.name:=toArr hN0
     have hNS:N0.size<=140737488351232:=by
      have h1:=hxr.1;rw [<-hNL] at h1;exact h1
     rw [hN0] at hyc;have hbl:=HM.out.1.bl
     have kb:∀{p:Addr} {u:Value},w0.cell? p=some u->wr.cell? p=some u:=λ hc=>by rw [World.cell?_of_block (hbl.block _ (World.block_lt_of_cell? w0 _ hc))];exact hc
     have u0:wr.cell? ⟨g,og+i*3,none⟩=some (.string N0):=kb (hyc 0 _ rfl);have u1:=kb (hyc 1 _ rfl);have u2:=kb (hyc 2 _ rfl)
     have HDR:Hid (dbV ((vs.take i).map (·.name)) (vs.drop i)=(if (!((vs.take i).map (·.name)).contains x.name)=true then [] else [(24,x.at_)])++dbV ((vs.take (i+1)).map (·.name)) (vs.drop (i+1))):=by
      show _=_;rw [drop_at hx,dbV_at,List.take_add_one,hx,Option.toList,List.map_append];rfl
     have HFS:Hid (∀s,(match fv s with|some j=>some j|none=>if s=x.name then some i else none).isSome=((vs.take (i+1)).map (·.name)).contains s):=λ s=>by
      have h1:=HM.out.2.1 s;rw [List.take_add_one,hx,Option.toList,List.map_append,List.contains_append,<-h1]
      cases fv s with
      |some j=>simp
      |none =>
       by_cases e:s=x.name
       ·simp [e]
       ·simp [e]
     obtain ⟨nu,hnu⟩:∃z,x.num=z:=⟨_,rfl⟩
     obtain ⟨p,hp⟩:∃z,x.at_=z:=⟨_,rfl⟩
     obtain ⟨nm,hnm⟩:∃z,x.name=z:=⟨_,rfl⟩
     rw [hnu] at u1;rw [hp] at u2 HDR;rw [hnm] at HDR HFS hNL
     obtain ⟨W5,hW5⟩:∃W,W=wr.alloc (.cells #[.string N0,.int .i64 nu,.int .i64 p] 73):=⟨_,rfl⟩
     obtain ⟨g5,hg5⟩:∃g,g=wr.heap.size:=⟨_,rfl⟩
     have hal5:Below wr.heap.size wr W5:=by rw [hW5];exact (b_ _ wr).alloc (n_ _) _
     have HX5:Hid (CB W5 g5 73 [.string N0,.int .i64 nu,.int .i64 p]):=by rw [hW5,hg5];exact CB.new wr _ [.string N0,.int .i64 nu,.int .i64 p]
     have hgb:g5≠b/\g5≠bV:=by have h1:=HM.out.1.c.lt;have h2:=HM.out.1.m.lt;rw [hg5];exact ⟨λ e=>by omega,λ e=>by omega⟩
     have HGB:=h_ hgb;have HM5:=h_ (HM.out.1.below hal5)
     obtain ⟨q,hq⟩:∃q,(fv nm).isNone=q:=⟨_,rfl⟩
     have HAd:Hid (Calls Tryz.prog 49 #[.map (some bV),.string N0,.int .i64 (i:Int)] W5.drew λ e w'=>e=.returned (.bool q)/\(w'.cell? ⟨b,2,none⟩=some (.map (some bV))/\w'.cell? ⟨g5,0,none⟩=some (.string N0)/\w'.cell? ⟨g5,2,none⟩=some (.int .i64 p))/\Hid (LNm w0 wA w' b bV CS fi (λ t=>match fv t with|some j=>some j|none=>if t=nm then some i else none) (i+1)/\CB w' g5 73 [.string N0,.int .i64 nu,.int .i64 p])):=by
      have hd:Below W5.heap.size W5 W5.drew:=(b_ _ W5).drew;have h1:=(HM5.out.below hd).add HD.out.2.2.1 HLB.out.2.1 N0 i hNS (by have:=HIM.out;have:=HVL.out;have:=HVN.out;omega) (by have:=HIM.out;have:=HVL.out;have:=HVN.out;omega);rw [hNL,hq] at h1;refine h1.mono ?_;rintro e w' ⟨rfl,h2,h3⟩;have c:=(HX5.out.drew).mv h3 HGB.out.2;have hcb:=h2.c;rw [hCS] at hcb;exact ⟨rfl,⟨hcb.c 2 rfl,c.c 0 rfl,c.c 2 rfl⟩,h2,c⟩
     have HRQ:Hid (∀(fm:List UInt8->Option Nat) (w6:World),Hid (LNm w0 wA w6 b bV CS fi fm (i+1)/\CB w6 g5 73 [.string N0,.int .i64 nu,.int .i64 p])->Calls Tryz.prog 48 #[.pointer (some ⟨b,4,none⟩),.bool q,.int .i64 24,.int .i64 p] w6 λ e w'=>e=.returned (.tuple #[])/\(w'.cell? ⟨b,2,none⟩=some (.map (some bV))/\w'.cell? ⟨g5,0,none⟩=some (.string N0)/\w'.cell? ⟨g5,2,none⟩=some (.int .i64 p))/\Hid (LNm w0 wA w' b bV CS (adv fi (if q=true then [] else [(24,p)])) fm (i+1))):=by
      rintro fm w6 ⟨h1,h2⟩;rw [hCS] at h1 ⊢;refine (h1.req (v1:=.bool true) (v2:=.bool true) HD.out.2.2.1 HLB.out.1 q 24 p).mono ?_;rintro e w' ⟨rfl,h3,h4⟩;have c:=h2.mv h4 HGB.out.1;exact ⟨rfl,⟨h3.c.c 2 rfl,c.c 0 rfl,c.c 2 rfl⟩,h3⟩
     have HT2:Hid (adv (adv fi (if q=true then [] else [(24,p)])) (dbV ((vs.take (i+1)).map (·.name)) (vs.drop (i+1)))=adv f1 (dbV [] vs)):=by
      have h1:=HM.out.2.1 nm;show _=_;rw [<-HM.out.2.2,HDR.out,<-h1]
      rw [show (!(fv nm).isSome)=(fv nm).isNone from by cases fv nm <;> rfl,hq,adv_app fi _ (λ x hx=>by
       split at hx
       ·cases hx
       ·rw [List.mem_singleton.1 hx];simp)]
     have z0:=HX5.out.c 0 rfl;have z2:=HX5.out.c 2 rfl
     have y2:W5.cell? ⟨b,2,none⟩=some (.map (some bV)):=by have h1:=HM5.out.c;rw [hCS] at h1;exact h1.c 2 rfl
     clear hx hxr hg hy hyc hv kb hbl hN0 hNL hNS hnu hp hnm hal5 hgb hq HM HDR hi;go_upto_region 8 with fail;rw [<-hW5,<-hg5];clear hW5 hg5 u0 u1 u2
     go_region_held3 (λ W=>W.cell? ⟨b,2,none⟩=some (.map (some bV))/\W.cell? ⟨g5,0,none⟩=some (.string N0)/\W.cell? ⟨g5,2,none⟩=some (.int .i64 p)) (go_keep) (first|(go_at_call 49;refine HAd.out.mono ?_;rintro e w5 ⟨rfl,⟨x1,x2,x3⟩,HQ5⟩)|(go_at_call 48;refine (HRQ.out _ _ HQ5).mono ?_;rintro e w6 ⟨rfl,⟨v1,v2,v3⟩,HF6⟩))
     all_goals
      have HF7:=h_ (And.intro HF6.out (And.intro HFS.out HT2.out));clear x1 x2 x3 v1 v2 v3 HQ5 HF6 HAd HRQ HT2 z0 z2 y2 HX5 HM5 HFS;go_wp2_with fail
      go_roundw
      case rel=>exact ⟨i+1,_,_,by have:=HIM.out;omega,by have h1:=HIM.out;have h2:=HVM.out;rw [Go.IntWalk.wrap64_in _ ⟨by omega,by omega⟩];rfl,HF7⟩
      case measure=>have h1:=HIM.out;have h2:=HVM.out;rw [Go.IntWalk.wrap64_in _ ⟨by omega,by omega⟩];simp [intOf];omega
    ·have him':¬(i:Int)<n:=by omega
     have hin:i=n:=by omega
     obtain ⟨wB,hwB⟩:∃W,W=wr:=⟨_,rfl⟩
     subst hwB
     have HG:Hid (fi=adv f1 (dbV [] vs)/\LNm w0 wA wB b bV CS fi fv n):=by
      obtain ⟨h1,_,h3⟩:=HM.out;have hvl:=HVN.out;rw [hin,drop_none (by omega)] at h3;rw [hin] at h1;rw [show ∀l,dbV l []=[] from λ _=>rfl,adv_nil] at h3;exact ⟨h3,h1⟩
     have HCH:Hid (Ch (λ k=>k=b∨k=bP∨k=bV) w wB):=(HA1.out.1.ch.mono (λ _ _ e=>by rcases e with e|e;exact .inl e;exact .inr (.inl e))).trans (HG.out.2.ch.mono (λ _ _ e=>by rcases e with e|e;exact .inl e;exact .inr (.inr e)))
     have HLF:Hid (LF w0 wB b ⟨.slice (some ⟨gl,0,none⟩) N cl,.slice (some ⟨gs,0,none⟩) NF cS,bV,bP⟩ L F (vs.map (·.name))):=by
      obtain ⟨_,h2⟩:=HG.out;have hch:=HCH.out;obtain ⟨⟨a1,a2,a3⟩,⟨b1,b2,b3⟩,d1,d2,d3⟩:=HD.out;refine ⟨HLB.out.1,⟨gl,cl,by rw [HN.out],a1,HND.out wB _ hch (λ e=>?_)⟩,⟨gs,cS,by rw [HNF.out],b1,HSP.out wB _ hch (λ e=>?_)⟩,⟨n,fv,h2.m,λ e=>d1 e.symm,λ s=>?_⟩,⟨N,HA1.out.1.m.same (h2.ch.block bP HA1.out.1.m.lt (λ e=>?_)),λ e=>d2 e.symm⟩,HFF.out.1,HFF.out.2.1,HFF.out.2.2.1,HFF.out.2.2.2.1,HFF.out.2.2.2.2⟩
      ·rcases e with e|e|e
       ·exact a1 e
       ·exact a3 e
       ·exact a2 e
      ·rcases e with e|e|e
       ·exact b1 e
       ·exact b3 e
       ·exact b2 e
      ·have h5:=HM.out.2.1 s;rw [hin,List.take_of_length_le (by have:=HVN.out;omega)] at h5;exact h5
      ·rcases e with e|e
       ·exact d2 e.symm
       ·exact d3 e.symm
     have HLS0:Hid (LS w0 wB wB b ⟨.slice (some ⟨gl,0,none⟩) N cl,.slice (some ⟨gs,0,none⟩) NF cS,bV,bP⟩ fi):=by
      obtain ⟨_,h2⟩:=HG.out;have h3:=h2.c;rw [hCS] at h3;exact ⟨h2.bl,Mv.refl b wB,h3⟩
     have HGV:Hid (fi=adv (adv (0,0) (dbL F 0 L)) (dbV [] vs)):=by show _=_;rw [HG.out.1,HA1.out.2]
     obtain ⟨P,hP⟩:∃P:LP,P=⟨.slice (some ⟨gl,0,none⟩) N cl,.slice (some ⟨gs,0,none⟩) NF cS,bV,bP⟩:=⟨_,rfl⟩
     rw [<-hP] at HLF HLS0;have HPP:=h_ hP
     have x0:wB.cell? ⟨b,0,none⟩=some (.slice (some ⟨gl,0,none⟩) N cl):=by have h1:=HLS0.out.2.2.c 0 rfl;rw [h1,hP]
     clear HM hi him hin HG HA1 HND HSP HIV HVE HVR HVL HVN HVM HD hP;go_wp2_with fail;clear him' x0
     go_loopw [68] (λ iv wr=>∃(i:Nat) (fj:Int×Int),i<=N/\iv=.int .i64 (i:Int)/\Hid (LS w0 wB wr b P fj/\adv fj (owL (vs.map (·.name)) F i (L.drop i))=adv fi (owL (vs.map (·.name)) F 0 L))) (λ iv _=>N-(intOf iv).toNat)
     case atStart=>exact ⟨0,fi,Nat.zero_le _,rfl,HLS0.out,by rw [List.drop_zero]⟩
     case round =>
      obtain ⟨i,fj,hi,rfl,HM⟩:=hrel;clear HLS0
      by_cases him:i<N
      ·have him':(i:Int)<N:=by omega
       have HIM:=h_ him
       obtain ⟨x,hx⟩:∃x,L[i]?=some x:=⟨_,List.getElem?_eq_getElem (by rw [HN.out];exact him)⟩
       have hmem:=List.mem_of_getElem? hx;have hxr:=HFF.out.2.2.2.2 x hmem;obtain ⟨eo,hok⟩:=HFF.out.2.2.2.1 x hmem;obtain ⟨sp,hsp,_,_⟩:=HFF.out.1.at_ hx;obtain ⟨gl',cl',hlv,_,hnd⟩:=HLF.out.list' HM.out.1;rw [HPP.out,HN.out] at hlv
       obtain rfl:gl=gl':=by injection hlv with h1;injection h1 with h1;injection h1
       obtain ⟨xs,hdx,hyc⟩:=hnd.at_ i x hx;have HOW:=h_ (λ g=>own_eq HLF.out.kd hsp hok g);have HMW:=h_ (kids_ok hok)
       have HDR:Hid (owL (vs.map (·.name)) F i (L.drop i)=owF (vs.map (·.name)) F i x++owL (vs.map (·.name)) F (i+1) (L.drop (i+1))):=by
        show _=_;rw [drop_at hx,owL]
       have HOF:Hid (∀g,adv g (owF (vs.map (·.name)) F i x++owL (vs.map (·.name)) F (i+1) (L.drop (i+1)))=adv (adv g (owF (vs.map (·.name)) F i x)) (owL (vs.map (·.name)) F (i+1) (L.drop (i+1)))):=λ g=>adv_app g _ (owF_ne _ _ _ _)
       have HSR:Hid (∀(W:World) (g:Int×Int),LS w0 wB W b P g->W.cell? ⟨b,1,none⟩=some (.slice (some ⟨gs,0,none⟩) NF cS)/\W.cell? ⟨gs,i*5+2,none⟩=some (.int .i64 sp.par)):=λ W g hk=>by
        obtain ⟨gs',cs',hsv,_,hsr⟩:=HLF.out.sp' hk;have h1:=hk.2.2.c 1 rfl;rw [HPP.out,HNF.out] at hsv
        obtain rfl:gs=gs':=by injection hsv with h1;injection h1 with h1;injection h1
        exact ⟨by rw [h1,HPP.out],hsr.p i sp hsp⟩
       have hsl:=(List.getElem?_eq_some_iff.1 hsp).1;rw [HNF.out] at hsl
       obtain ⟨par,hpar⟩:∃z,sp.par=z:=⟨_,rfl⟩
       rw [hpar] at HOW HSR;obtain ⟨k,nm,ini,dft,en,le,mo,ks,p⟩:=x;rw [GN.rng] at hxr;obtain ⟨_,_,hrd,hre,hrl,hrm,_⟩:=hxr;have HIN0:=λ (W:World) (g:Int×Int) (hk:LS w0 wB W b P g)=>linitial_any HLF.out hk k p nm ini dft en le mo ks xs hdx;have HHI0:=λ (W:World) (g:Int×Int) (hk:LS w0 wB W b P g)=>lhistory_any HLF.out hk k p par nm ini dft en le mo ks xs hdx hrd
       have HOA:Hid (∀g,adv g (owF (vs.map (·.name)) F i (.mk k nm ini dft en le mo ks p))=adv (adv (adv (adv g (ownFt F i (.mk k nm ini dft en le mo ks p))) (acsF (vs.map (·.name)) F en)) (acsF (vs.map (·.name)) F le)) (mvsF (vs.map (·.name)) F mo)):=λ g=>by
        rw [owF,adv_app g _ (ownFt_ne F i _),adv_app _ _ (acsF_ne _ F en),adv_app _ _ (acsF_ne _ F le)]
       obtain ⟨A1,A2,A3,A4,c1,c2,c3,c4,rfl,hd1,hd2,hd3,_⟩:=node_v hdx;have HAE:=h_ (λ (W:World) (g:Int×Int) (hk:LS w0 wB W b P g)=>lacts_any HLF.out hk en A1 en.length c1 hd1 hre);have HAL:=h_ (λ (W:World) (g:Int×Int) (hk:LS w0 wB W b P g)=>lacts_any HLF.out hk le A2 le.length c2 hd2 hrl);have HMM:=h_ hd3;have HRM:=h_ hrm;obtain ⟨N0,hN0⟩:=str_of nm;obtain ⟨I0,hI0⟩:=str_of ini;obtain ⟨D0,hD0⟩:=str_of dft;rw [hN0,hI0,hD0] at hyc HIN0 HHI0;have u0:=hyc 0 _ rfl;have u1:=hyc 1 _ rfl;have u2:=hyc 2 _ rfl;have u3:=hyc 3 _ rfl;have u4:=hyc 4 _ rfl;have u5:=hyc 5 _ rfl;have u6:=hyc 6 _ rfl;have u7:=hyc 7 _ rfl;have u8:=hyc 8 _ rfl;rw [Nat.add_zero] at u0
       obtain ⟨E1,hE1⟩:∃E,inL (.mk k nm ini dft en le mo ks p)=E:=⟨_,rfl⟩
       obtain ⟨E2,hE2⟩:∃E,hiL F par (.mk k nm ini dft en le mo ks p)=E:=⟨_,rfl⟩
       obtain ⟨E3,hE3⟩:∃E,ownFt F i (.mk k nm ini dft en le mo ks p)=E:=⟨_,rfl⟩
       rw [hE1] at HIN0;rw [hE2] at HHI0;rw [hE1,hE2,hE3] at HOW;rw [hE3] at HOA
       obtain ⟨n1,hn1⟩:∃n,en.length=n:=⟨_,rfl⟩
       obtain ⟨n2,hn2⟩:∃n,le.length=n:=⟨_,rfl⟩
       obtain ⟨n3,hn3⟩:∃n,mo.length=n:=⟨_,rfl⟩
       obtain ⟨n4,hn4⟩:∃n,ks.length=n:=⟨_,rfl⟩
       have HN3:=h_ hn3
       have HN3M:Hid (n3<=9223372036854775807):=by
        obtain ⟨_,_,e2,f3,f4⟩:=DxAt.slice (show DxAt w0 (.row 57 13 mo.length (mo.flatMap gMove)) (.slice A3 mo.length c3) from hd3)
        have:maxLen<=9223372036854775807:=by decide
        injection e2 with _ _ e2;show _<=_;omega
       rw [hn1,hn2,hn3,hn4] at HIN0 HHI0;rw [hn1] at u4 HAE;rw [hn2] at u5 HAL;rw [hn3] at u6 HMM;rw [hn4] at u7
       obtain ⟨W9,hW9⟩:∃W,W=wr.alloc (.cells #[.int .i64 k,.string N0,.string I0,.string D0,.slice A1 n1 c1,.slice A2 n2 c2,.slice A3 n3 c3,.slice A4 n4 c4,.int .i64 p] 27):=⟨_,rfl⟩
       obtain ⟨g9,hg9⟩:∃g,g=wr.heap.size:=⟨_,rfl⟩
       have hal9:Below wr.heap.size wr W9:=by rw [hW9];exact (b_ _ wr).alloc (n_ _) _
       have HX9:Hid (CB W9 g9 27 [.int .i64 k,.string N0,.string I0,.string D0,.slice A1 n1 c1,.slice A2 n2 c2,.slice A3 n3 c3,.slice A4 n4 c4,.int .i64 p]):=by rw [hW9,hg9];exact CB.new wr _ [.int .i64 k,.string N0,.string I0,.string D0,.slice A1 n1 c1,.slice A2 n2 c2,.slice A3 n3 c3,.slice A4 n4 c4,.int .i64 p]
       have HGB:Hid (g9≠b):=by have h1:=HM.out.1.2.2.lt;rw [hg9];exact λ e=>by omega
       have HL9:=h_ (HM.out.1.below hal9);have HTT:Hid (adv fj (owL (vs.map (·.name)) F i (L.drop i))=adv fi (owL (vs.map (·.name)) F 0 L)):=HM.out.2;have HINI:=h_ (HIN0 W9 fj HL9.out);have HHI:=h_ HHI0
       have hi0:(0:Int)<=(i:Int):=by omega
       have hi1:(i:Int)<(NF:Int):=by omega
       have hi2:(NF:Int)<=9223372036854775807:=by have h1:=HFF.out.1.len;have h2:=HFF.out.2.2.1;have h3:=HNF.out;omega
       have z0:=HX9.out.c 0 rfl;have z1:=HX9.out.c 1 rfl;have z2:=HX9.out.c 2 rfl;have z3:=HX9.out.c 3 rfl;have z4:=HX9.out.c 4 rfl;have z5:=HX9.out.c 5 rfl;have z6:=HX9.out.c 6 rfl;have z7:=HX9.out.c 7 rfl;have z8:=HX9.out.c 8 rfl;clear hx hmem hok hsp hlv hnd hdx hyc hsl hpar hrd hre hrl hrm HIN0 HHI0 hd1 hd2 hd3 hN0 hI0 hD0 hE1 hE2 hE3 hn1 hn2 hn3 hn4 hal9 HM hi;go_upto_region 13 with fail;rw [<-hW9,<-hg9];clear hW9 hg9 u0 u1 u2 u3 u4 u5 u6 u7 u8;go_wp2_with fail;refine HINI.out.mono ?_;rintro e w2 ⟨rfl,h1,h2⟩
       have HQ2:Hid (LS w0 wB w2 b P (adv fj E1)/\CB w2 g9 27 [.int .i64 k,.string N0,.string I0,.string D0,.slice A1 n1 c1,.slice A2 n2 c2,.slice A3 n3 c3,.slice A4 n4 c4,.int .i64 p]):=⟨h1,HX9.out.mv h2 HGB.out⟩
       clear h1 h2 z0 z1 z2 z3 z4 z5 z6 z7 z8 HINI HX9 HL9
       have HHd:Hid (Calls Tryz.prog 51 #[.pointer (some ⟨b,0,none⟩),.agg #[.int .i64 k,.string N0,.string I0,.string D0,.slice A1 n1 c1,.slice A2 n2 c2,.slice A3 n3 c3,.slice A4 n4 c4,.int .i64 p],.int .i64 par] w2.drew λ e w'=>e=.returned (.tuple #[])/\(w'.cell? ⟨g9,0,none⟩=some (.int .i64 k)/\w'.cell? ⟨g9,1,none⟩=some (.string N0)/\w'.cell? ⟨g9,2,none⟩=some (.string I0)/\w'.cell? ⟨g9,3,none⟩=some (.string D0)/\w'.cell? ⟨g9,4,none⟩=some (.slice A1 n1 c1)/\w'.cell? ⟨g9,5,none⟩=some (.slice A2 n2 c2)/\w'.cell? ⟨g9,6,none⟩=some (.slice A3 n3 c3)/\w'.cell? ⟨g9,7,none⟩=some (.slice A4 n4 c4)/\w'.cell? ⟨g9,8,none⟩=some (.int .i64 p)/\w'.cell? ⟨b,1,none⟩=some (.slice (some ⟨gs,0,none⟩) NF cS)/\w'.cell? ⟨gs,i*5+2,none⟩=some (.int .i64 par))/\Hid (LS w0 wB w' b P (adv fj E3)/\CB w' g9 27 [.int .i64 k,.string N0,.string I0,.string D0,.slice A1 n1 c1,.slice A2 n2 c2,.slice A3 n3 c3,.slice A4 n4 c4,.int .i64 p])):=by
        have hd:Below w2.heap.size w2 w2.drew:=(b_ _ w2).drew;refine (HHI.out w2.drew _ (HQ2.out.1.below hd)).mono ?_;rintro e w' ⟨rfl,h1,h2⟩;have c:=(HQ2.out.2.below hd).mv h2 HGB.out;rw [HOW.out] at h1;obtain ⟨q1,q2⟩:=HSR.out w' _ h1;exact ⟨rfl,⟨c.c 0 rfl,c.c 1 rfl,c.c 2 rfl,c.c 3 rfl,c.c 4 rfl,c.c 5 rfl,c.c 6 rfl,c.c 7 rfl,c.c 8 rfl,q1,q2⟩,h1,c⟩
       have z0:=HQ2.out.2.c 0 rfl;have z1:=HQ2.out.2.c 1 rfl;have z2:=HQ2.out.2.c 2 rfl;have z3:=HQ2.out.2.c 3 rfl;have z4:=HQ2.out.2.c 4 rfl;have z5:=HQ2.out.2.c 5 rfl;have z6:=HQ2.out.2.c 6 rfl;have z7:=HQ2.out.2.c 7 rfl;have z8:=HQ2.out.2.c 8 rfl;obtain ⟨z9,z10⟩:=HSR.out w2 _ HQ2.out.1;go_upto_region 14 with fail
       go_region_held3 (λ W=>W.cell? ⟨g9,0,none⟩=some (.int .i64 k)/\W.cell? ⟨g9,1,none⟩=some (.string N0)/\W.cell? ⟨g9,2,none⟩=some (.string I0)/\W.cell? ⟨g9,3,none⟩=some (.string D0)/\W.cell? ⟨g9,4,none⟩=some (.slice A1 n1 c1)/\W.cell? ⟨g9,5,none⟩=some (.slice A2 n2 c2)/\W.cell? ⟨g9,6,none⟩=some (.slice A3 n3 c3)/\W.cell? ⟨g9,7,none⟩=some (.slice A4 n4 c4)/\W.cell? ⟨g9,8,none⟩=some (.int .i64 p)/\W.cell? ⟨b,1,none⟩=some (.slice (some ⟨gs,0,none⟩) NF cS)/\W.cell? ⟨gs,i*5+2,none⟩=some (.int .i64 par)) (go_keep) (first|(go_at_call 51;refine HHd.out.mono ?_;rintro e w5 ⟨rfl,⟨x0,x1,x2,x3,x4,x5,x6,x7,x8,x9,x10⟩,HQ5⟩))
       all_goals
        have HC5:=h_ (HAE.out w5 _ HQ5.out.1);clear z0 z1 z2 z3 z4 z5 z6 z7 z8 z9 z10 HHd HQ2;go_wp2_with fail;refine HC5.out.mono ?_;rintro e w6 ⟨rfl,h1,h2⟩
        have HQ6:Hid (LS w0 wB w6 b P (adv (adv fj E3) (acsF (vs.map (·.name)) F en))/\CB w6 g9 27 [.int .i64 k,.string N0,.string I0,.string D0,.slice A1 n1 c1,.slice A2 n2 c2,.slice A3 n3 c3,.slice A4 n4 c4,.int .i64 p]):=⟨h1,HQ5.out.2.mv h2 HGB.out⟩
        have HC6:=h_ (HAL.out w6 _ h1);clear h1 h2 x0 x1 x2 x3 x4 x5 x6 x7 x8 x9 x10 HC5 HQ5;have z5:=HQ6.out.2.c 5 rfl;go_wp2_with fail;refine HC6.out.mono ?_;rintro e w7 ⟨rfl,h1,h2⟩
        have HQ7:Hid (LS w0 wB w7 b P (adv (adv (adv fj E3) (acsF (vs.map (·.name)) F en)) (acsF (vs.map (·.name)) F le))/\CB w7 g9 27 [.int .i64 k,.string N0,.string I0,.string D0,.slice A1 n1 c1,.slice A2 n2 c2,.slice A3 n3 c3,.slice A4 n4 c4,.int .i64 p]):=⟨h1,HQ6.out.2.mv h2 HGB.out⟩
        clear h1 h2 z5 HC6 HQ6;have z6:=HQ7.out.2.c 6 rfl;go_wp2_with fail;clear z6
        go_loopw [99] (λ jv wr=>∃(jx:Nat) (fk:Int×Int),jx<=n3/\jv=.int .i64 (jx:Int)/\Hid (LS w0 wB wr b P fk/\adv fk (mvsF (vs.map (·.name)) F (mo.drop jx))=adv (adv (adv (adv fj E3) (acsF (vs.map (·.name)) F en)) (acsF (vs.map (·.name)) F le)) (mvsF (vs.map (·.name)) F mo))) (λ jv _=>n3-(intOf jv).toNat)
        case atStart=>exact ⟨0,_,Nat.zero_le _,rfl,HQ7.out.1,by rw [List.drop_zero]⟩
        case round =>
         obtain ⟨jx,fk,hj,rfl,HJ⟩:=hrel;clear HQ7
         by_cases hjm:jx<n3
         ·have hjm':(jx:Int)<n3:=by omega
          have HJM:=h_ hjm
          obtain ⟨mv,hmv⟩:∃mv,mo[jx]?=some mv:=⟨_,List.getElem?_eq_getElem (by rw [HN3.out];exact hjm)⟩
          have hmm:=HMM.out;rw [<-HN3.out] at hmm;obtain ⟨gm,om,c',ys,hv,_,_,hg,hy,_,hmc⟩:=DxAt.elem (f:=gMove) (k:=13) gMove_len (by decide) (show DxAt w0 (.row 57 13 mo.length (mo.flatMap gMove)) (.slice A3 mo.length c3) from hmm) hmv
          obtain rfl:A3=some ⟨gm,om,none⟩:=by injection hv
          have hmem:=List.mem_of_getElem? hmv;have HMC0:=λ (W:World) (hk:LS w0 wB W b P fk)=>lmove_any HLF.out hk mv ys hy (HRM.out mv hmem) (HMW.out mv hmem)
          have HDM:Hid (adv (adv fk (mvF (vs.map (·.name)) F mv)) (mvsF (vs.map (·.name)) F (mo.drop (jx+1)))=adv (adv (adv (adv fj E3) (acsF (vs.map (·.name)) F en)) (acsF (vs.map (·.name)) F le)) (mvsF (vs.map (·.name)) F mo)):=by
           show _=_;rw [<-HJ.out.2,drop_at hmv,mvsF,adv_app fk _ (λ x hx=>mvsF_ne (vs.map (·.name)) F [mv] x (by rw [mvsF];exact List.mem_append_left _ hx))]
          obtain ⟨ME,hME⟩:∃E,mvF (vs.map (·.name)) F mv=E:=⟨_,rfl⟩
          rw [hME] at HMC0 HDM;obtain ⟨ev,F1,F2,d1,d2,rfl,_⟩:=move_vals' hy;obtain ⟨MS,hMS⟩:=str_of mv.event
          obtain ⟨mk,hmk⟩:∃z,mv.kind=z:=⟨_,rfl⟩
          obtain ⟨mw,hmw⟩:∃z,mv.wait=z:=⟨_,rfl⟩
          obtain ⟨mg,hmg⟩:∃z,mv.guarded=z:=⟨_,rfl⟩
          obtain ⟨mp,hmp⟩:∃z,mv.at_=z:=⟨_,rfl⟩
          obtain ⟨m1,hm1⟩:∃z,mv.acts.length=z:=⟨_,rfl⟩
          obtain ⟨m2,hm2⟩:∃z,mv.targets.length=z:=⟨_,rfl⟩
          obtain ⟨ek,em,es,eo,eA,el,ec,ep⟩:=ev;rw [hMS,hmk,hmw,hmg,hmp,hm1,hm2] at HMC0 hmc
          have kb:∀{p:Addr} {u:Value},w0.cell? p=some u->wr.cell? p=some u:=λ hc=>by rw [World.cell?_of_block (HJ.out.1.1.block _ (World.block_lt_of_cell? w0 _ hc))];exact hc
          have u0:wr.cell? ⟨gm,om+jx*13,none⟩=_:=kb (hmc 0 _ rfl);have u1:=kb (hmc 1 _ rfl);have u2:=kb (hmc 2 _ rfl);have u3:=kb (hmc 3 _ rfl);have u4:=kb (hmc 4 _ rfl);have u5:=kb (hmc 5 _ rfl);have u6:=kb (hmc 6 _ rfl);have u7:=kb (hmc 7 _ rfl);have u8:=kb (hmc 8 _ rfl);have u9:=kb (hmc 9 _ rfl);have u10:=kb (hmc 10 _ rfl);have u11:=kb (hmc 11 _ rfl);have u12:=kb (hmc 12 _ rfl)
          obtain ⟨WM,hWM⟩:∃W,W=wr.alloc (.cells #[.int .i64 mk,.string MS,.int .i64 mw,.bool mg,.int .i64 ek,.int .i64 em,.string es,.int .i64 eo,.slice eA el ec,.int .i64 ep,.slice F1 m1 d1,.slice F2 m2 d2,.int .i64 mp] 57):=⟨_,rfl⟩
          obtain ⟨gM,hgM⟩:∃g,g=wr.heap.size:=⟨_,rfl⟩
          have halM:Below wr.heap.size wr WM:=by rw [hWM];exact (b_ _ wr).alloc (n_ _) _
          have HXM:Hid (CB WM gM 57 [.int .i64 mk,.string MS,.int .i64 mw,.bool mg,.int .i64 ek,.int .i64 em,.string es,.int .i64 eo,.slice eA el ec,.int .i64 ep,.slice F1 m1 d1,.slice F2 m2 d2,.int .i64 mp]):=by rw [hWM,hgM];exact CB.new wr _ [.int .i64 mk,.string MS,.int .i64 mw,.bool mg,.int .i64 ek,.int .i64 em,.string es,.int .i64 eo,.slice eA el ec,.int .i64 ep,.slice F1 m1 d1,.slice F2 m2 d2,.int .i64 mp]
          have HCM:=h_ (HMC0 WM (HJ.out.1.below halM));clear hmv hmm hv hg hy hmc hmem HMC0 hME hMS hmk hmw hmg hmp hm1 hm2 kb halM HJ hj;go_upto_region 20 with fail;rw [<-hWM,<-hgM];clear hWM hgM u0 u1 u2 u3 u4 u5 u6 u7 u8 u9 u10 u11 u12;have z0:=HXM.out.c 0 rfl;have z1:=HXM.out.c 1 rfl;have z2:=HXM.out.c 2 rfl;have z3:=HXM.out.c 3 rfl;have z4:=HXM.out.c 4 rfl;have z5:=HXM.out.c 5 rfl;have z6:=HXM.out.c 6 rfl;have z7:=HXM.out.c 7 rfl;have z8:=HXM.out.c 8 rfl;have z9:=HXM.out.c 9 rfl;have z10:=HXM.out.c 10 rfl;have z11:=HXM.out.c 11 rfl;have z12:=HXM.out.c 12 rfl;go_wp2_with fail;refine HCM.out.mono ?_;rintro e w8 ⟨rfl,h1,_⟩;have HJ8:=h_ (And.intro h1 HDM.out);clear h1 z0 z1 z2 z3 z4 z5 z6 z7 z8 z9 z10 z11 z12 HCM HXM HDM;go_wp2_with fail
          go_roundw
          case rel=>exact ⟨jx+1,_,by have:=HJM.out;omega,by have h1:=HJM.out;have h2:=HN3M.out;rw [Go.IntWalk.wrap64_in _ ⟨by omega,by omega⟩];rfl,HJ8⟩
          case measure=>have h1:=HJM.out;have h2:=HN3M.out;rw [Go.IntWalk.wrap64_in _ ⟨by omega,by omega⟩];simp [intOf];omega
         ·have hjm':¬(jx:Int)<n3:=by omega
          have HNX:Hid (LS w0 wB wr b P (adv fj (owF (vs.map (·.name)) F i (.mk k nm ini dft en le mo ks p)))/\adv (adv fj (owF (vs.map (·.name)) F i (.mk k nm ini dft en le mo ks p))) (owL (vs.map (·.name)) F (i+1) (L.drop (i+1)))=adv fi (owL (vs.map (·.name)) F 0 L)):=by
           obtain ⟨h1,h2⟩:=HJ.out;rw [drop_none (by rw [HN3.out];omega),show mvsF (vs.map (·.name)) F []=[] from rfl,adv_nil] at h2;rw [HOA.out,<-h2];refine ⟨h1,?_⟩;rw [h2,<-HOA.out,<-HOF.out,<-HDR.out];exact HTT.out
          clear hj HJ;go_wp2_with fail
          go_roundw
          case rel=>exact ⟨i+1,_,by have:=HIM.out;omega,rfl,HNX⟩
          case measure=>have h1:=HIM.out;simp [intOf];omega
      ·have him':¬(i:Int)<N:=by omega
       have HEND:Hid (LS w0 wB wr b P (adv (0,0) (dbL F 0 L++(dbV [] vs++owL (vs.map (·.name)) F 0 L)))):=by
        obtain ⟨h1,h2⟩:=HM.out;rw [drop_none (by rw [HN.out];omega),show ∀q,owL (vs.map (·.name)) F q []=[] from λ _=>rfl,adv_nil] at h2;rw [adv_app _ _ (dbL_ne F L 0),adv_app _ _ (dbV_ne vs []),<-HGV.out,<-h2];exact h1
       have HENC:Hid (CB wr b 69 [.slice (some ⟨gl,0,none⟩) N cl,.slice (some ⟨gs,0,none⟩) NF cS,.map (some bV),.map (some bP),.int .i64 (adv (0,0) (dbL F 0 L++(dbV [] vs++owL (vs.map (·.name)) F 0 L))).1,.int .i64 (adv (0,0) (dbL F 0 L++(dbV [] vs++owL (vs.map (·.name)) F 0 L))).2]):=by
        have h1:=HEND.out.2.2;rw [HPP.out] at h1;exact h1
       clear hi HM;go_wp2_with fail;go_end0;exact ⟨rfl,HENC.out,HEND.out.1,HCH.out.trans ((Ch.of_mv HEND.out.2.1).mono (λ _ _ e=>.inl e))⟩
def setFin (L:List Spt) (a:Nat):List Spt:=match L[a]? with|some s=>L.set a ⟨s.kind,s.name,s.par,s.dep,(L.length:Int)⟩|none=>L
theorem setFin_app (L M:List Spt) (s:Spt):setFin (L++s::M) L.length=L++⟨s.kind,s.name,s.par,s.dep,((L.length+1+M.length:Nat):Int)⟩::M:=by
 unfold setFin;rw [List.getElem?_append_right (n_ _),Nat.sub_self,z_];simp only;rw [List.set_append_right _ _ (n_ _),Nat.sub_self,v_,List.length_append,List.length_cons]
 congr 3
 omega
theorem spC_set (L:List Spt) (a:Nat) (s:Spt) (f:Int) (h:L[a]?=some s):(L.set a ⟨s.kind,s.name,s.par,s.dep,f⟩).flatMap spC=(L.flatMap spC).set (a*5+4) (.int .i64 f):=by
 induction L generalizing a with
 |nil=>simp at h
 |cons x l ih =>
  have hx:(spC x).length=5:=rfl
  cases a with
  |zero =>
   rw [z_,j_] at h;subst h;rw [v_,List.flatMap_cons,List.flatMap_cons,List.set_append_left _ _ (by omega)];rfl
  |succ a =>
   rw [s_] at h;rw [k_,List.flatMap_cons,List.flatMap_cons,ih a h,List.set_append_right _ _ (by omega),hx]
   congr 2
   omega
theorem fclose_any (w0 w:World) (b:Nat) (L:List Spt) (v:Value) (a:Nat) (h:TS w0 w b L v) (ha:a<L.length) (hL:L.length<=1000000) :
  Calls Tryz.prog 78 #[v,.int .i64 (a:Int)] w λ e w'=>e=.returned (.tuple #[])/\TS w0 w' b (setFin L a) v:=by
 have hne:L≠[]:=by intro e;rw [e] at ha;cases ha
 obtain ⟨g,c,cur,rfl,h1,h2,h3,hg,hsz,hr⟩:=h.r.row hne;have hs:=List.getElem?_eq_getElem ha
 obtain ⟨s,hs'⟩:∃s,L[a]=s:=⟨_,rfl⟩
 rw [hs'] at hs
 have HE:Hid (TS w0 (w.setCell ⟨g,a*5+4,none⟩ (.int .i64 (L.length:Int))) b (setFin L a) (.slice (some ⟨g,0,none⟩) L.length c)):=by
  have hgb:g≠b:=λ e=>h.ne (by rw [e];rfl);refine ⟨h.c.other (λ e=>hgb e.symm) _ _,?_,h.ne,h.bl.setCell h3 _,h.lb⟩
  have hset:setFin L a=L.set a ⟨s.kind,s.name,s.par,s.dep,(L.length:Int)⟩:=by unfold setFin;rw [hs]
  have hl:(setFin L a).length=L.length:=by rw [hset,List.length_set]
  unfold SpO;rw [hl,hset,spC_set L a s _ hs];have hown:=h.r;refine ⟨by rw [List.length_set];exact hown.1,.inr ⟨g,c,cur.setIfInBounds (a*5+4) (.int .i64 (L.length:Int)),rfl,h3,?_,h1,h2,by simpa using hsz,?_⟩⟩
  ·exact heap_setCell_same w g _ _ _ _ hg
  ·rcases hown.2 with ⟨e,_⟩|⟨g',cap',cur',e,_,hg',_,_,_,ht⟩
   ·cases e
   ·injection e with e1 e2 e3;injection e1 with e1;injection e1 with e1;subst e1;rw [hg] at hg';injection hg' with hg';injection hg' with hg';subst hg';rw [Array.toList_setIfInBounds,List.take_set,ht]
 obtain ⟨C,hC⟩:∃C:Value,w.cell? ⟨g,a*5+4,none⟩=some C:=⟨_,hr.f a s hs⟩
 have hfr:w.frozen? ⟨g,a*5+4,none⟩=false:=by simp [World.frozen?,hg]
 have hlm:(L.length:Int)<=1000000:=by omega
 obtain ⟨n,hn⟩:∃n,L.length=n:=⟨_,rfl⟩
 rw [hn] at ha hlm HE ⊢
 have ha':(a:Int)<(n:Int):=by omega
 clear h hs hs' hr hg hsz hne h1 h2 h3 hL hn;go_enter Tryz.func78,Tryz.ntmps78;go_wp2_with fail;go_end0;exact ⟨rfl,HE.out⟩
theorem layNs_app:∀(l m:List GN) (p d:Int) (a:Nat),layNs (l++m) p d a=layNs l p d a++layNs m p d (a+nNs l)
 |[],m,p,d,a=>by rw [List.nil_append,layNs,List.nil_append,nNs,Nat.add_zero]
 |x::l,m,p,d,a=>by rw [List.cons_append,layNs,layNs_app l m,layNs,nNs,a_,Nat.add_assoc]
theorem nNs_app:∀l m:List GN,nNs (l++m)=nNs l+nNs m
 |[],m=>by rw [List.nil_append,nNs,Nat.zero_add]
 |x::l,m=>by rw [List.cons_append,nNs,nNs_app l m,nNs,Nat.add_assoc]
theorem nNs_take (l:List GN) (i:Nat):nNs (l.take i)<=nNs l:=by
 have h:=nNs_app (l.take i) (l.drop i);rw [List.take_append_drop] at h;omega
theorem depA_at (L M:List Spt) (s:Spt):depA (L++s::M) (L.length:Int)=s.dep+1:=by
 unfold depA;rw [if_neg (by omega),show ((L.length:Int)).toNat=L.length from by omega,List.getElem?_append_right (n_ _),Nat.sub_self];rfl
def ParOk (L:List Spt) (par:Int) (d:Nat):Prop:=par=-1∨∃(p:Nat) (s:Spt),par=(p:Int)/\L[p]?=some s/\-1<=s.dep/\s.dep+d<=100
theorem ParOk.dep {L:List Spt} {par:Int} {d:Nat} (h:ParOk L par d) (hd:d<=50):0<=depA L par/\depA L par+d<=101:=by
 rcases h with rfl|⟨p,s,rfl,hs,h1,h2⟩
 ·unfold depA;rw [if_pos (by decide)];omega
 ·unfold depA;rw [if_neg (by omega),show ((p:Int)).toNat=p from by omega,hs];simp only;omega
def PVis (w0:World) (b d:Nat) (x:GN):Prop:=∀(w:World) (L:List Spt) (v:Value) (par:Int) (xs:List Value),TS w0 w b L v->DxsAt w0 (gNode x) xs->x.rng->ParOk L par d->d<=50->L.length+nN x<=1000000 ->
 Calls Tryz.prog 40 #[.pointer (some ⟨b,0,none⟩),.agg xs.toArray,.int .i64 par] w λ e w'=>e=.returned (.tuple #[])/\∃v',TS w0 w' b (L++layN x par (depA L par) L.length) v'
theorem vis_all (w0:World) (b:Nat):∀(d:Nat) (x:GN),okN d x=true->PVis w0 b d x
 |0,x,ho=>by rw [okN] at ho;cases ho
 |d+1,.mk k nm ini dft en le mo ks q,ho=>by
  intro w L v par xs h hx hr hp hd hL
  have hks:∀(i:Nat) (a:GN),ks[i]?=some a->okN d a=true:=by
   rw [okN,Bool.and_eq_true] at ho;obtain ⟨_,ho⟩:=ho;intro i a ha
   split at ho
   ·simp only [Bool.and_eq_true,List.isEmpty_iff] at ho;rw [ho.2] at ha;simp at ha
   ·simp only [Bool.and_eq_true] at ho;exact okNs_iff.1 ho.2 a (List.mem_of_getElem? ha)
  have HND:=h_ (λ (i:Nat) (a:GN) (ha:ks[i]?=some a)=>vis_all w0 b d a (hks i a ha));clear hks ho;have hdep:=hp.dep hd;obtain ⟨A1,A2,A3,A4,c1,c2,c3,c4,rfl,_,_,_,hkd⟩:=node_v hx;rw [GN.rng] at hr;obtain ⟨hr0,_,_,_,_,_,hrk⟩:=hr;have HRK:=h_ hrk
  obtain ⟨N0,hN0⟩:∃N:ByteArray,(⟨nm.toArray⟩:ByteArray)=N:=⟨_,rfl⟩
  obtain ⟨I0,hI0⟩:=str_of ini;obtain ⟨D0,hD0⟩:=str_of dft
  have eN:txV nm=.string N0:=by rw [<-hN0];rfl
  have hnm:N0.data.toList=nm:=by rw [<-hN0]
  rw [eN,hI0,hD0];rw [nN] at hL
  obtain ⟨W1,hW1⟩:∃W,W=w.alloc (.cells #[.int .i64 k,.string N0,.string I0,.string D0,.slice A1 en.length c1,.slice A2 le.length c2,.slice A3 mo.length c3,.slice A4 ks.length c4,.int .i64 q] 27):=⟨_,rfl⟩
  obtain ⟨g1,hg1⟩:∃g,g=w.heap.size:=⟨_,rfl⟩
  have hal:Below w.heap.size w W1:=by rw [hW1];exact (b_ _ w).alloc (n_ _) _
  have HB1:Hid (CB W1 g1 27 [.int .i64 k,.string N0,.string I0,.string D0,.slice A1 en.length c1,.slice A2 le.length c2,.slice A3 mo.length c3,.slice A4 ks.length c4,.int .i64 q]):=by rw [hW1,hg1];exact CB.new w _ [.int .i64 k,.string N0,.string I0,.string D0,.slice A1 en.length c1,.slice A2 le.length c2,.slice A3 mo.length c3,.slice A4 ks.length c4,.int .i64 q]
  have hT:=h.below hal
  obtain ⟨D,hD⟩:∃D,depA L par=D:=⟨_,rfl⟩
  have HOPN:Hid (Calls Tryz.prog 77 #[.pointer (some ⟨b,0,none⟩),.agg #[.int .i64 k,.string N0,.string I0,.string D0,.slice A1 en.length c1,.slice A2 le.length c2,.slice A3 mo.length c3,.slice A4 ks.length c4,.int .i64 q],.int .i64 par] W1.drew λ e w' =>
    e=.returned (.int .i64 (L.length:Int))/\∃v',Hid (TS w0 w' b (L++[⟨k,nm,par,D,0⟩]) v')/\w'.cell? ⟨g1,7,none⟩=some (.slice A4 ks.length c4)):=by
   have hdr:TS w0 W1.drew b L v:=hT.below ((b_ _ W1).drew);refine (fopen_any w0 W1.drew b L v k q N0 I0 D0 A1 A2 A3 A4 en.length le.length mo.length ks.length c1 c2 c3 c4 par hdr (by rw [<-hN0];simpa [ByteArray.size] using hr0) (by omega) ?_).mono ?_
   ·rcases hp with hp|⟨p,s,e1,e2,e3,e4⟩
    ·exact .inl hp
    ·exact .inr ⟨p,s,e1,e2,e3,by omega⟩
   ·rintro e w' ⟨rfl,v',h1,h2⟩;rw [hnm,hD] at h1;refine ⟨rfl,v',h1,?_⟩;have hlt:=h.c.lt;refine ((HB1.out.drew).ch h2 (λ e=>?_)).c 7 rfl;rcases e with e|e
    ·omega
    ·have:=(World.ownsRow.lt h.r g1 e).2;omega
  rw [hD] at hdep ⊢
  obtain ⟨NK,hNK⟩:∃n,ks.length=n:=⟨_,rfl⟩
  have HNK:Hid (ks.length=NK):=hNK
  have HKS:Hid (DxAt w0 (.row 27 9 ks.length (ks.flatMap gNode)) (.slice A4 ks.length c4)):=by
   show DxAt _ _ _;have:=hkd;unfold gKids at this;rw [gNodes_flat] at this;exact this
  have HMX:Hid (NK<=9223372036854775807):=by
   obtain ⟨_,_,e2,f3,f4⟩:=HKS.out.slice
   have:maxLen<=9223372036854775807:=by decide
   injection e2 with _ _ e2;show _<=_;omega
  have HLL:=h_ hL;have HDD:=h_ hdep;have hd':=h_ hd
  have HLAY:Hid (layN (.mk k nm ini dft en le mo ks q) par D L.length=⟨k,nm,par,D,(L.length:Int)+1+(nNs ks:Nat)⟩::layNs ks (L.length:Int) (D+1) (L.length+1)):=by show _=_;rw [layN]
  rw [hNK] at HOPN ⊢;rw [hNK] at hW1 HB1
  obtain ⟨LN,hLN⟩:∃n,L.length=n:=⟨_,rfl⟩
  have HLN:Hid (L.length=LN):=hLN;rw [hLN] at HOPN HLAY ⊢;have y0:=HB1.out.c 0 rfl;have y1:=HB1.out.c 1 rfl;have y2:=HB1.out.c 2 rfl;have y3:=HB1.out.c 3 rfl;have y4:=HB1.out.c 4 rfl;have y5:=HB1.out.c 5 rfl;have y6:=HB1.out.c 6 rfl;have y7:=HB1.out.c 7 rfl;have y8:=HB1.out.c 8 rfl;clear h hx hr0 hrk hp hd hL hal hT hdep hkd hNK hLN hD hN0 hI0 hD0 eN hnm;go_enter Tryz.func40,Tryz.ntmps40;go_upto_region 1 with fail;rw [<-hW1,<-hg1];clear hW1 hg1
  go_still_tail 5,(by kernel_rfl)
  change wpList _ _ _ _ _ W1.drew;clear y0 y1 y2 y3 y4 y5 y6 y7 y8;go_wp2_with fail;refine HOPN.out.mono ?_;rintro e w2 ⟨rfl,v2,HT2,z7⟩;clear HOPN HB1;go_wp2_with fail;clear z7
  go_loopw [18] (λ iv wr=>∃(i:Nat) (vi:Value),i<=NK/\iv=.int .i64 (i:Int)/\Hid (TS w0 wr b (L++⟨k,nm,par,D,0⟩::layNs (ks.take i) (LN:Int) (D+1) (LN+1)) vi)) (λ iv _=>NK-(intOf iv).toNat)
  case atStart=>exact ⟨0,v2,Nat.zero_le _,rfl,by show TS _ _ _ (_++_::layNs [] _ _ _) _;rw [layNs];exact HT2.out⟩
  case round =>
   obtain ⟨i,vi,hi,rfl,HTI⟩:=hrel;clear HT2
   by_cases him:i<NK
   ·have him':(i:Int)<NK:=by omega
    have HIM:=h_ him
    obtain ⟨a,ha⟩:∃a,ks[i]?=some a:=⟨_,List.getElem?_eq_getElem (by rw [HNK.out];exact him)⟩
    obtain ⟨g,og,c,ys,hv,_,_,hg,hy,_,hyc⟩:=DxAt.elem (f:=gNode) (k:=9) gNode_len (by decide) HKS.out ha
    obtain rfl:A4=some ⟨g,og,none⟩:=by injection hv
    have HNX:Hid (layNs (ks.take (i+1)) (LN:Int) (D+1) (LN+1)=layNs (ks.take i) (LN:Int) (D+1) (LN+1)++layN a (LN:Int) (D+1) (LN+1+nNs (ks.take i))):=by
     show _=_;rw [List.take_add_one,ha,Option.toList,layNs_app,layNs,layNs,List.append_nil]
    have HCM:∀W:World,Below wr.heap.size wr W->Calls Tryz.prog 40 #[.pointer (some ⟨b,0,none⟩),.agg ys.toArray,.int .i64 (LN:Int)] W λ e w'=>e=.returned (.tuple #[])/\∃v',Hid (TS w0 w' b (L++⟨k,nm,par,D,0⟩::layNs (ks.take (i+1)) (LN:Int) (D+1) (LN+1)) v'):=λ W hb=>by
     have hdep:=HDD.out;have hd:=hd'.out;have hLL:=HLL.out;have hln:=HLN.out
     have hsum:nNs (ks.take i)+nN a<=nNs ks:=by
      have h1:=nNs_app (ks.take i) [a];have h2:=nNs_take ks (i+1);rw [List.take_add_one,ha,Option.toList] at h2;rw [nNs,nNs] at h1;omega
     have hdA:depA (L++⟨k,nm,par,D,0⟩::layNs (ks.take i) (LN:Int) (D+1) (LN+1)) (LN:Int)=D+1:=by
      rw [<-hln];exact depA_at L _ _
     have hlen:(L++⟨k,nm,par,D,0⟩::layNs (ks.take i) (LN:Int) (D+1) (LN+1)).length=LN+1+nNs (ks.take i):=by
      rw [List.length_append,List.length_cons,layNs_len];omega
     have:=HND.out i a ha W _ vi (LN:Int) ys (HTI.out.below hb) hy (GN.rngs_iff.1 HRK.out a (List.mem_of_getElem? ha)) (.inr ⟨LN,⟨k,nm,par,D,0⟩,rfl,by rw [<-hln,List.getElem?_append_right (n_ _),Nat.sub_self];rfl,by simp only;omega,by simp only;omega⟩) (by omega) (by rw [hlen];omega);refine this.mono ?_;rintro e w' ⟨rfl,v',h1⟩;rw [hdA,hlen,a_,List.cons_append,<-HNX.out] at h1;exact ⟨rfl,v',h1⟩
    obtain ⟨ka,na,ia,da,ea,la,ma,sa,pa⟩:=a;obtain ⟨E1,E2,E3,E4,e1,e2,e3,e4,rfl,_⟩:=node_v hy;obtain ⟨P1,hP1⟩:=str_of na;obtain ⟨P2,hP2⟩:=str_of ia;obtain ⟨P3,hP3⟩:=str_of da;rw [hP1,hP2,hP3] at HCM hyc
    have kb:∀{p:Addr} {u:Value},w0.cell? p=some u->wr.cell? p=some u:=λ hc=>by rw [World.cell?_of_block (HTI.out.bl.block _ (World.block_lt_of_cell? w0 _ hc))];exact hc
    have u0:wr.cell? ⟨g,og+i*9,none⟩=_:=kb (hyc 0 _ rfl);have u1:=kb (hyc 1 _ rfl);have u2:=kb (hyc 2 _ rfl);have u3:=kb (hyc 3 _ rfl);have u4:=kb (hyc 4 _ rfl);have u5:=kb (hyc 5 _ rfl);have u6:=kb (hyc 6 _ rfl);have u7:=kb (hyc 7 _ rfl);have u8:=kb (hyc 8 _ rfl)
    obtain ⟨W5,hW5⟩:∃W,W=wr.alloc (.cells #[.int .i64 ka,.string P1,.string P2,.string P3,.slice E1 ea.length e1,.slice E2 la.length e2,.slice E3 ma.length e3,.slice E4 sa.length e4,.int .i64 pa] 27):=⟨_,rfl⟩
    obtain ⟨g5,hg5⟩:∃g,g=wr.heap.size:=⟨_,rfl⟩
    have hal5:Below wr.heap.size wr W5:=by rw [hW5];exact (b_ _ wr).alloc (n_ _) _
    have HB5:Hid (CB W5 g5 27 [.int .i64 ka,.string P1,.string P2,.string P3,.slice E1 ea.length e1,.slice E2 la.length e2,.slice E3 ma.length e3,.slice E4 sa.length e4,.int .i64 pa]):=by rw [hW5,hg5];exact CB.new wr _ [.int .i64 ka,.string P1,.string P2,.string P3,.slice E1 ea.length e1,.slice E2 la.length e2,.slice E3 ma.length e3,.slice E4 sa.length e4,.int .i64 pa]
    have HCC:=h_ (HCM W5 hal5);clear ha hv hg hy hyc kb hal5 HCM hP1 hP2 hP3 HTI him hi HNX;go_upto_region 5 with fail;rw [<-hW5,<-hg5];clear hW5 hg5 u0 u1 u2 u3 u4 u5 u6 u7 u8;have z0:=HB5.out.c 0 rfl;have z1:=HB5.out.c 1 rfl;have z2:=HB5.out.c 2 rfl;have z3:=HB5.out.c 3 rfl;have z4:=HB5.out.c 4 rfl;have z5:=HB5.out.c 5 rfl;have z6:=HB5.out.c 6 rfl;have z7:=HB5.out.c 7 rfl;have z8:=HB5.out.c 8 rfl;go_wp2_with fail;refine HCC.out.mono ?_;rintro e w3 ⟨rfl,v3,HT3⟩;clear z0 z1 z2 z3 z4 z5 z6 z7 z8 HB5 HCC;go_wp2_with fail;exact ⟨⟨i+1,v3,by have:=HIM.out;omega,by have h1:=HIM.out;have h2:=HMX.out;rw [Go.IntWalk.wrap64_in _ ⟨by omega,by omega⟩];rfl,HT3⟩,by have h1:=HIM.out;have h2:=HMX.out;rw [Go.IntWalk.wrap64_in _ ⟨by omega,by omega⟩];simp [intOf];omega⟩
   ·have him':¬(i:Int)<NK:=by omega
    have hTI:=HTI.out;rw [List.take_of_length_le (by rw [HNK.out];omega)] at hTI;have hln:=HLN.out;have hLL:=HLL.out;have hC:=fclose_any w0 wr b _ vi LN hTI (by rw [List.length_append,List.length_cons];omega) (by rw [List.length_append,List.length_cons,layNs_len];omega)
    have hsf:setFin (L++⟨k,nm,par,D,0⟩::layNs ks (LN:Int) (D+1) (LN+1)) LN=L++layN (.mk k nm ini dft en le mo ks q) par D LN:=by
     have h1:=setFin_app L (layNs ks (LN:Int) (D+1) (LN+1)) ⟨k,nm,par,D,0⟩;rw [hln] at h1;rw [h1,HLAY.out,layNs_len];simp only
     congr 3
    rw [hsf] at hC;have HC:=h_ hC;have y0:=hTI.c.c 0 rfl;clear hTI hC hsf hln hLL him hi HTI HLAY;go_wp2_with fail;refine HC.out.mono ?_;rintro e w3 ⟨rfl,hT3⟩;have HT3:=h_ hT3;clear hT3 HC y0;go_wp2_with fail;go_end0;exact ⟨rfl,_,HT3.out⟩
theorem notM_any (w:World) (b h:Nat) (k q p:Int) (S:ByteArray) (gd:Bool) (ev:EV) (A1 A2:Option Addr) (n1 n2 c1 c2:Nat) (r:Bool) (R:World->Prop) (hc:w.cell? ⟨h,0,none⟩=some (.func (.func 194) #[.pointer (some ⟨b,0,none⟩)] #[])) (hh:h<w.heap.size)
  (HF:Hid (∀W,Below w.heap.size w W->Calls Tryz.prog 194 #[.pointer (some ⟨b,0,none⟩),.agg #[.int .i64 k,.string S,.int .i64 q,.bool gd,.int .i64 ev.kind,.int .i64 ev.num,.string ev.name,.int .i64 ev.op,.slice ev.A ev.len ev.cap,.int .i64 ev.p,.slice A1 n1 c1,.slice A2 n2 c2,.int .i64 p]] W λ e w'=>e=.returned (.bool r)/\R w'/\Mv b W w')) :
  Calls Tryz.prog 242 #[.agg #[.int .i64 k,.string S,.int .i64 q,.bool gd,.int .i64 ev.kind,.int .i64 ev.num,.string ev.name,.int .i64 ev.op,.slice ev.A ev.len ev.cap,.int .i64 ev.p,.slice A1 n1 c1,.slice A2 n2 c2,.int .i64 p],.pointer (some ⟨h,0,none⟩)] w λ e w'=>e=.returned (.bool (!r))/\R w'/\Mv b w w':=by
 obtain ⟨W0,hW0⟩:∃W,W=w.alloc (.cells #[.int .i64 k,.string S,.int .i64 q,.bool gd,.int .i64 ev.kind,.int .i64 ev.num,.string ev.name,.int .i64 ev.op,.slice ev.A ev.len ev.cap,.int .i64 ev.p,.slice A1 n1 c1,.slice A2 n2 c2,.int .i64 p] 57):=⟨_,rfl⟩
 obtain ⟨g0,hg0⟩:∃g,g=w.heap.size:=⟨_,rfl⟩
 have HB:Hid (Below w.heap.size w W0):=by rw [hW0];exact (b_ _ w).alloc (n_ _) _
 have HX:Hid (CB W0 g0 57 [.int .i64 k,.string S,.int .i64 q,.bool gd,.int .i64 ev.kind,.int .i64 ev.num,.string ev.name,.int .i64 ev.op,.slice ev.A ev.len ev.cap,.int .i64 ev.p,.slice A1 n1 c1,.slice A2 n2 c2,.int .i64 p]):=by rw [hW0,hg0];exact CB.new w _ [.int .i64 k,.string S,.int .i64 q,.bool gd,.int .i64 ev.kind,.int .i64 ev.num,.string ev.name,.int .i64 ev.op,.slice ev.A ev.len ev.cap,.int .i64 ev.p,.slice A1 n1 c1,.slice A2 n2 c2,.int .i64 p]
 have c0:W0.cell? ⟨h,0,none⟩=some (.func (.func 194) #[.pointer (some ⟨b,0,none⟩)] #[]):=by rw [World.cell?_of_block (HB.out.block h hh)];exact hc
 have HC:=h_ (HF.out W0 HB.out);have z0:=HX.out.c 0 rfl;have z1:=HX.out.c 1 rfl;have z2:=HX.out.c 2 rfl;have z3:=HX.out.c 3 rfl;have z4:=HX.out.c 4 rfl;have z5:=HX.out.c 5 rfl;have z6:=HX.out.c 6 rfl;have z7:=HX.out.c 7 rfl;have z8:=HX.out.c 8 rfl;have z9:=HX.out.c 9 rfl;have z10:=HX.out.c 10 rfl;have z11:=HX.out.c 11 rfl;have z12:=HX.out.c 12 rfl;clear hc hh HF;go_enter Tryz.func242,Tryz.ntmps242;go_upto_region 1 with fail;rw [<-hW0,<-hg0];clear hW0 hg0;go_wp2_with fail;refine HC.out.mono ?_;rintro e w2 ⟨rfl,hr,hm⟩;have HR:=h_ hr;have HM2:=h_ ((Mv.of_below b HB.out).trans hm);clear hr hm HC HX z0 z1 z2 z3 z4 z5 z6 z7 z8 z9 z10 z11 z12 c0;go_wp2_with fail;go_ret;exact ⟨rfl,HR.out,HM2.out⟩
def allWM {α:Type} (w0:World) (b lvl:Nat) (step:Nat×Nat×Nat->α->Bool×(Nat×Nat×Nat)) (P:Nat×Nat×Nat->Prop) (l:List α) (v:Value):Prop:=∀(i:Nat) (a:α),l[i]?=some a->∃(g og c:Nat) (k q p:Int) (S:ByteArray) (gd:Bool) (ev:EV) (A1 A2:Option Addr) (n1 n2 c1 c2:Nat),v=.slice (some ⟨g,og,none⟩) l.length c/\g<w0.heap.size/\w0.cell? ⟨g,og+i*13,none⟩=some (.int .i64 k)/\w0.cell? ⟨g,og+i*13+1,none⟩=some (.string S)/\w0.cell? ⟨g,og+i*13+2,none⟩=some (.int .i64 q)/\w0.cell? ⟨g,og+i*13+3,none⟩=some (.bool gd)/\w0.cell? ⟨g,og+i*13+4,none⟩=some (.int .i64 ev.kind)/\w0.cell? ⟨g,og+i*13+5,none⟩=some (.int .i64 ev.num)/\w0.cell? ⟨g,og+i*13+6,none⟩=some (.string ev.name)/\w0.cell? ⟨g,og+i*13+7,none⟩=some (.int .i64 ev.op)/\w0.cell? ⟨g,og+i*13+8,none⟩=some (.slice ev.A ev.len ev.cap)/\w0.cell? ⟨g,og+i*13+9,none⟩=some (.int .i64 ev.p)/\w0.cell? ⟨g,og+i*13+10,none⟩=some (.slice A1 n1 c1)/\w0.cell? ⟨g,og+i*13+11,none⟩=some (.slice A2 n2 c2)/\w0.cell? ⟨g,og+i*13+12,none⟩=some (.int .i64 p) /\
 ∀W s,P s->KS w0 W b lvl s->Calls Tryz.prog 194 #[.pointer (some ⟨b,0,none⟩),.agg #[.int .i64 k,.string S,.int .i64 q,.bool gd,.int .i64 ev.kind,.int .i64 ev.num,.string ev.name,.int .i64 ev.op,.slice ev.A ev.len ev.cap,.int .i64 ev.p,.slice A1 n1 c1,.slice A2 n2 c2,.int .i64 p]] W λ e w'=>e=.returned (.bool (step s a).1)/\(KS w0 w' b lvl (step s a).2/\((step s a).1=true->P (step s a).2))/\Mv b W w'
theorem firstM_any {α:Type} (w0 w:World) (b lvl:Nat) (step:Nat×Nat×Nat->α->Bool×(Nat×Nat×Nat)) (P:Nat×Nat×Nat->Prop) (l:List α) (A:Option Addr) (c h n:Nat) (s0:Nat×Nat×Nat) (hn:l.length=n) (hm:n<=9223372036854775807) (H0:Hid (allWM w0 b lvl step P l (.slice A n c))) (hs:KS w0 w b lvl s0) (hP:P s0) (hc:w.cell? ⟨h,0,none⟩=some (.func (.func 194) #[.pointer (some ⟨b,0,none⟩)] #[])) (hh:h<w.heap.size) (hhb:h≠b) :
  Calls Tryz.prog 280 #[.slice A n c,.func (.func 242) #[] #[.pointer (some ⟨h,0,none⟩)]] w λ e w'=>∃r:Int,e=.returned (.int .i64 r)/\decide (0<=r)=!(foldS step s0 l).1/\(KS w0 w' b lvl (foldS step s0 l).2/\((foldS step s0 l).1=true->P (foldS step s0 l).2))/\Mv b w w':=by
 have HN:=h_ hn;have HM:=h_ hm;have HS:=h_ (And.intro hs hP);have HC0:=h_ (And.intro hc (And.intro hh hhb));clear hn hm hs hc hh hhb hP;go_enter Tryz.func280,Tryz.ntmps280;go_wp2_with fail
 go_loopw [8] (λ iv wr=>∃(i:Nat) (s:Nat×Nat×Nat),i<=n/\iv=.int .i64 (i:Int)/\Hid (foldS step s0 l=foldS step s (l.drop i))/\Hid (KS w0 wr b lvl s/\P s)/\Hid (Mv b w wr)) (λ iv _=>n-(intOf iv).toNat)
 case atStart=>exact ⟨0,s0,Nat.zero_le _,rfl,rfl,HS.out,Mv.refl b w⟩
 case round =>
  obtain ⟨i,s,hi,rfl,HT,HKS,HBW⟩:=hrel
  by_cases him:i<n
  ·have him':(i:Int)<n:=by omega
   have HIM:=h_ him
   obtain ⟨a,ha⟩:∃a,l[i]?=some a:=⟨_,List.getElem?_eq_getElem (by rw [HN.out];exact him)⟩
   have hyc:=H0.out i a ha;rw [HN.out] at hyc;obtain ⟨g,og,c',k,q,p,S,gd,ev,A1,A2,n1,n2,c1,c2,hv,hg,y0,y1,y2,y3,y4,y5,y6,y7,y8,y9,y10,y11,y12,hcall⟩:=hyc
   obtain rfl:A=some ⟨g,og,none⟩:=by injection hv
   have hbw:Below w0.heap.size w0 wr:=HKS.out.1.1
   have kb:∀{p:Addr} {u:Value},w0.cell? p=some u->wr.cell? p=some u:=λ hc=>by rw [World.cell?_of_block (hbw.block _ (World.block_lt_of_cell? w0 _ hc))];exact hc
   have u0:=kb y0;have u1:=kb y1;have u2:=kb y2;have u3:=kb y3;have u4:=kb y4;have u5:=kb y5;have u6:=kb y6;have u7:=kb y7;have u8:=kb y8;have u9:=kb y9;have u10:=kb y10;have u11:=kb y11;have u12:=kb y12;have HCL:=h_ (notM_any wr b h k q p S gd ev A1 A2 n1 n2 c1 c2 (step s a).1 (λ w'=>KS w0 w' b lvl (step s a).2/\((step s a).1=true->P (step s a).2)) (by rw [World.cell?_of_block (HBW.out.block HC0.out.2.1 HC0.out.2.2)];exact HC0.out.1) (Nat.lt_of_lt_of_le HC0.out.2.1 HBW.out.size) (h_ (λ W hb=>hcall W s HKS.out.2 (HKS.out.1.below hb))))
   have HFD:Hid (foldS step s0 l=if (step s a).1=true then foldS step (step s a).2 (l.drop (i+1)) else (false,(step s a).2)):=by
    show _=_;rw [HT.out,drop_cons2 ha];rfl
   obtain ⟨r,hr⟩:∃r,(step s a).1=r:=⟨_,rfl⟩
   rw [hr] at HCL HFD
   obtain ⟨s2,hs2⟩:∃s2,(step s a).2=s2:=⟨_,rfl⟩
   rw [hs2] at HCL HFD;clear ha hv hg hcall hbw kb hr hs2 HT y0 y1 y2 y3 y4 y5 y6 y7 y8 y9 y10 y11 y12;cases r
   ·go_wp2_with fail;refine HCL.out.mono ?_;rintro e w2 ⟨rfl,hk,hb⟩;have HB2:=h_ (HBW.out.trans hb);have HK2:=h_ hk.1;clear hb hk HCL u0 u1 u2 u3 u4 u5 u6 u7 u8 u9 u10 u11 u12 HBW HKS;go_wp2_with fail;go_ret;refine ⟨_,rfl,?_,?_,HB2.out⟩
    ·rw [HFD.out];simp
    ·rw [HFD.out];exact ⟨HK2.out,λ h=>by simp at h⟩
   ·go_wp2_with fail;refine HCL.out.mono ?_;rintro e w2 ⟨rfl,hk,hb⟩;have HB2:=h_ (HBW.out.trans hb);have HK2:=h_ (And.intro hk.1 (hk.2 trivial));clear hb hk HCL u0 u1 u2 u3 u4 u5 u6 u7 u8 u9 u10 u11 u12 HBW HKS;go_wp2_with fail
    go_roundw
    case rel=>exact ⟨i+1,s2,by have:=HIM.out;omega,by have h1:=HIM.out;have h2:=HM.out;rw [Go.IntWalk.wrap64_in _ ⟨by omega,by omega⟩];rfl,HFD.out,HK2,HB2⟩
    case measure=>have h1:=HIM.out;have h2:=HM.out;rw [Go.IntWalk.wrap64_in _ ⟨by omega,by omega⟩];simp [intOf];omega
  ·have him':¬(i:Int)<n:=by omega
   have HALL:Hid (foldS step s0 l=(true,s)):=by
    show _=_;rw [HT.out,List.drop_eq_nil_of_le (by rw [HN.out];omega)];rfl
   clear hi;go_wp2_with fail;go_ret;refine ⟨_,rfl,?_,?_,HBW.out⟩
   ·rw [HALL.out];rfl
   ·rw [HALL.out];exact ⟨HKS.out.1,λ _=>HKS.out.2⟩
theorem contM_any {α:Type} (w0 w:World) (b lvl:Nat) (step:Nat×Nat×Nat->α->Bool×(Nat×Nat×Nat)) (P:Nat×Nat×Nat->Prop) (l:List α) (A:Option Addr) (c h n:Nat) (s0:Nat×Nat×Nat) (R1:Bool) (R2:Nat×Nat×Nat) (hR:foldS step s0 l=(R1,R2)) (hn:l.length=n) (hm:n<=9223372036854775807) (H0:Hid (allWM w0 b lvl step P l (.slice A n c))) (hs:KS w0 w b lvl s0) (hP:P s0) (hc:w.cell? ⟨h,0,none⟩=some (.func (.func 194) #[.pointer (some ⟨b,0,none⟩)] #[])) (hh:h<w.heap.size) (hhb:h≠b) :
  Calls Tryz.prog 241 #[.slice A n c,.func (.func 242) #[] #[.pointer (some ⟨h,0,none⟩)]] w λ e w'=>e=.returned (.bool (!R1))/\(KS w0 w' b lvl R2/\(R1=true->P R2))/\Mv b w w':=by
 have HC:=h_ (firstM_any w0 w b lvl step P l A c h n s0 hn hm H0 hs hP hc hh hhb);rw [hR] at HC;simp only at HC;clear hn hm H0 hs hP hc hh hhb hR;go_enter Tryz.func241,Tryz.ntmps241;go_wp2_with fail;refine HC.out.mono ?_;rintro e w2 ⟨r,rfl,hr,hb⟩;have HB9:=h_ hb;have HR9:=h_ hr;clear hb hr HC;go_wp2_with fail;go_ret;refine ⟨?_,HB9.out⟩;rw [<-HR9.out];rfl
theorem everyM_any {α:Type} (w0 w:World) (b lvl:Nat) (step:Nat×Nat×Nat->α->Bool×(Nat×Nat×Nat)) (P:Nat×Nat×Nat->Prop) (l:List α) (A:Option Addr) (c n:Nat) (s0:Nat×Nat×Nat) (hn:l.length=n) (hm:n<=9223372036854775807) (H0:Hid (allWM w0 b lvl step P l (.slice A n c))) (hs:KS w0 w b lvl s0) (hP:P s0) :
  Calls Tryz.prog 193 #[.slice A n c,.func (.func 194) #[.pointer (some ⟨b,0,none⟩)] #[]] w λ e w'=>e=.returned (.bool (foldS step s0 l).1)/\(KS w0 w' b lvl (foldS step s0 l).2/\((foldS step s0 l).1=true->P (foldS step s0 l).2))/\Mv b w w':=by
 obtain ⟨W0,hW0⟩:∃W,W=w.alloc (.cells #[.func (.func 194) #[.pointer (some ⟨b,0,none⟩)] #[]] 235):=⟨_,rfl⟩
 obtain ⟨g0,hg0⟩:∃g,g=w.heap.size:=⟨_,rfl⟩
 have HB:Hid (Below w.heap.size w W0):=by rw [hW0];exact (b_ _ w).alloc (n_ _) _
 have HX:Hid (CB W0 g0 235 [.func (.func 194) #[.pointer (some ⟨b,0,none⟩)] #[]]):=by rw [hW0,hg0];exact CB.new w _ [.func (.func 194) #[.pointer (some ⟨b,0,none⟩)] #[]]
 have hne:g0≠b:=by have:=hs.2.lt;omega
 obtain ⟨⟨R1,R2⟩,hR⟩:∃R,foldS step s0 l=R:=⟨_,rfl⟩
 have HC:=h_ (contM_any w0 W0 b lvl step P l A c g0 n s0 R1 R2 hR hn hm H0 (hs.below HB.out) hP (HX.out.c 0 rfl) HX.out.lt hne);rw [hR];simp only;clear hn hm H0 hR HX hs hP hne;go_enter Tryz.func193,Tryz.ntmps193;go_upto_region 1 with fail;rw [<-hW0,<-hg0];clear hW0 hg0;go_wp2_with fail;refine HC.out.mono ?_;rintro e w2 ⟨rfl,hk,hb⟩;have HB9:=h_ ((Mv.of_below b HB.out).trans hb);have HK9:=h_ hk;clear hb hk HC;go_wp2_with fail;go_ret;exact ⟨by cases R1 <;> rfl,HK9.out,HB9.out⟩
theorem cell_up {w W:World} (hb:Below w.heap.size w W) {p:Addr} {u:Value} (h:w.cell? p=some u):W.cell? p=some u:=by
 rw [World.cell?_of_block (hb.block _ (World.block_lt_of_cell? w _ h))];exact h
theorem allA_of {w0:World} {l:List GA} {v:Value} (hx:DxAt w0 (gActs l) v) (hE:Ee w0) (hr:∀a∈l,a.rng) {W:World} (hb:Below w0.heap.size w0 W):Hid (allWA W l v):=by
 intro i a ha;obtain ⟨g,og,c,ys,hv,_,_,hg,hy,_,hyc⟩:=DxAt.elem gAct_len (by decide) (show DxAt w0 (.row _ 9 l.length (l.flatMap gAct)) v from hx) ha;obtain ⟨ev,rfl,hgv⟩:=act_vals' hy;refine ⟨g,og,c,ev,hv,Nat.lt_of_lt_of_le hg hb.size,cell_up hb (hyc 0 _ rfl),cell_up hb (hyc 1 _ rfl),cell_up hb (hyc 2 _ rfl),cell_up hb (hyc 3 _ rfl),cell_up hb (hyc 4 _ rfl),cell_up hb (hyc 5 _ rfl),cell_up hb (hyc 6 _ rfl),cell_up hb (hyc 7 _ rfl),cell_up hb (hyc 8 _ rfl),λ W' hb'=>?_⟩;have hbb:Below w0.heap.size w0 W':=hb.trans (hb'.mono hb.size);exact isact_any W' a ev ⟨a.name.toArray⟩ rfl ((GV.below hgv hbb (n_ _)).mono (n_ 0) hbb.size) (hr a (List.mem_of_getElem? ha)) (hE.below hbb)
theorem allV_of {w0:World} {l:List SyVar} {v:Value} (hx:DxAt w0 (dvVars l) v) (hE:Ee w0) (hr:∀a∈l,a.rng) {W:World} (hb:Below w0.heap.size w0 W):Hid (allWV W l v):=by
 intro i a ha;obtain ⟨g,og,c,ys,hv,_,_,hg,hy,_,hyc⟩:=DxAt.elem dvVar_len (by decide) (show DxAt w0 (.row _ 3 l.length (l.flatMap dvVar)) v from hx) ha;obtain rfl:=var_vals' hy;refine ⟨g,og,c,(),hv,Nat.lt_of_lt_of_le hg hb.size,cell_up hb (hyc 0 _ rfl),cell_up hb (hyc 1 _ rfl),cell_up hb (hyc 2 _ rfl),λ W' hb'=>?_⟩;have hbb:Below w0.heap.size w0 W':=hb.trans (hb'.mono hb.size);exact isvar_any W' a ⟨a.name.toArray⟩ rfl (hr a (List.mem_of_getElem? ha)) (hE.below hbb).vr.kw
theorem allS_of {w0:World} {l:List (List UInt8)} {A:Option Addr} {c:Nat} (hx:DxAt w0 (dvStrs l) (.slice A l.length c)) (hE:Ee w0) (hr:∀t∈l,t.length<=140737488351232) {W:World} (hb:Below w0.heap.size w0 W):Hid (allWS W l (.slice A l.length c)):=by
 intro i t ht;obtain ⟨_,_,h⟩:=strs_sl hx;obtain ⟨g,o,rfl,hg,hc⟩:=h i ⟨t.toArray⟩ (by rw [List.getElem?_map,ht];rfl);refine ⟨g,o,c,(),rfl,Nat.lt_of_lt_of_le hg hb.size,cell_up hb hc,λ W' hb'=>?_⟩;have hbb:Below w0.heap.size w0 W':=hb.trans (hb'.mono hb.size);refine (name_any ⟨t.toArray⟩ W' (by have:=hr t (List.mem_of_getElem? ht);show t.toArray.size<=_;simpa using this) (hE.below hbb).vr.kw).mono ?_;rintro e w' ⟨rfl,rfl⟩;exact ⟨by simp,b_ _ _⟩
theorem KS.set0 {w0 w:World} {b lvl n m a:Nat} (h:KS w0 w b lvl (n,m,a)) (hb:w0.heap.size<=b) (n':Nat):KS w0 (w.setCell ⟨b,0,none⟩ (.int .i64 (n':Int))) b lvl (n',m,a):=⟨h.1.setCell (p:=⟨b,0,none⟩) hb _,h.2.set 0 _⟩
theorem KS.set1 {w0 w:World} {b lvl n m a:Nat} (h:KS w0 w b lvl (n,m,a)) (hb:w0.heap.size<=b) (n':Nat):KS w0 (w.setCell ⟨b,1,none⟩ (.int .i64 (n':Int))) b lvl (n,n',a):=⟨h.1.setCell (p:=⟨b,1,none⟩) hb _,h.2.set 1 _⟩
theorem KS.set2 {w0 w:World} {b lvl n m a:Nat} (h:KS w0 w b lvl (n,m,a)) (hb:w0.heap.size<=b) (n':Nat):KS w0 (w.setCell ⟨b,2,none⟩ (.int .i64 (n':Int))) b lvl (n,m,n'):=⟨h.1.setCell (p:=⟨b,2,none⟩) hb _,h.2.set 2 _⟩
theorem KS.set3 {w0 w:World} {b lvl:Nat} {s:Nat×Nat×Nat} (h:KS w0 w b lvl s) (hb:w0.heap.size<=b) (n':Nat):KS w0 (w.setCell ⟨b,3,none⟩ (.int .i64 (n':Int))) b n' s:=⟨h.1.setCell (p:=⟨b,3,none⟩) hb _,h.2.set 3 _⟩
theorem kcount_any (w:World) (b i x more most:Nat) (hc:w.cell? ⟨b,i,none⟩=some (.int .i64 (x:Int))) (hf:w.frozen? ⟨b,i,none⟩=false) (h1:x+more<=9223372036854775807) :
  Calls Tryz.prog 138 #[.pointer (some ⟨b,i,none⟩),.int .i64 (more:Int),.int .i64 (most:Int)] w λ e w'=>e=.returned (.bool (decide (x+more<=most)))/\w'=w.setCell ⟨b,i,none⟩ (.int .i64 ((x+more:Nat):Int)):=by
 refine (count8_any w b i x more most hc hf (by omega) (by omega)).mono ?_;rintro e w' ⟨rfl,rfl⟩;refine ⟨?_,by rw [Int.natCast_add]⟩
 congr 2
 by_cases c:x+more<=most
 ·rw [decide_eq_true c,decide_eq_true (by omega)]
 ·rw [decide_eq_false c,decide_eq_false (by omega)]
theorem kblock_any (w0 w:World) (b lvl:Nat) (s:Nat×Nat×Nat) (l:List GA) (A:Option Addr) (c:Nat) (hE:Ee w0) (h:KS w0 w b lvl s) (hb:w0.heap.size<=b) (hs:Rm s) (hx:DxAt w0 (gActs l) (.slice A l.length c)) (hr:∀a∈l,a.rng) (hl63:l.length<=1000000000000000) :
  Calls Tryz.prog 192 #[.pointer (some ⟨b,0,none⟩),.slice A l.length c] w λ e w'=>e=.returned (.bool (blkC s l).1)/\(KS w0 w' b lvl (blkC s l).2/\((blkC s l).1=true->Rm (blkC s l).2))/\Mv b w w':=by
 obtain ⟨n,m,a⟩:=s;have HSP:=h_ (λ h=>((blkC_spec (n,m,a) l hs).1 h).1);have HC:=h_ (kcount_any w b 2 a l.length 400 (h.2.c 2 rfl) (h.2.fr 2) (by have:=hs.2.2;simp only at this;omega))
 obtain ⟨W1,hW1⟩:∃W,W=w.setCell ⟨b,2,none⟩ (.int .i64 ((a+l.length:Nat):Int)):=⟨_,rfl⟩
 have HK1:Hid (KS w0 W1 b lvl (n,m,a+l.length)):=by rw [hW1];exact h.set2 hb _
 have HM1:Hid (Mv b w W1):=by rw [hW1];exact (Mv.refl b w).set 2 _
 have HA:=h_ (everyA_any W1 l A c l.length rfl (by omega) (allA_of hx hE hr HK1.out.1))
 obtain ⟨q1,hq1⟩:∃q,decide (a+l.length<=400)=q:=⟨_,rfl⟩
 obtain ⟨q2,hq2⟩:∃q,l.all okA=q:=⟨_,rfl⟩
 have HR:Hid (blkC (n,m,a) l=(q1&&q2,(n,m,a+l.length))):=by
  show _=_;unfold blkC;rw [hq2];simp only;rw [hq1]
 rw [hq2] at HA;rw [hq1,<-hW1] at HC
 obtain ⟨N,hN⟩:∃N,l.length=N:=⟨_,rfl⟩
 rw [hN] at HC HA ⊢;clear h hs hx hr hE hW1 hq1 hq2 hl63 hN hb;go_enter Tryz.func192,Tryz.ntmps192;cases q1
 ·go_wp2_with fail;refine HC.out.mono ?_;rintro e w2 ⟨rfl,rfl⟩;go_wp2_with fail;go_ret;refine ⟨by rw [HR.out];rfl,⟨by rw [HR.out];exact HK1.out,HSP.out⟩,HM1.out⟩
 ·go_wp2_with fail;refine HC.out.mono ?_;rintro e w2 ⟨rfl,rfl⟩;go_wp2_with fail;refine HA.out.mono ?_;rintro e w3 ⟨rfl,hb⟩;have HB3:=h_ hb;clear hb HC HA;go_wp2_with fail;go_ret;refine ⟨by rw [HR.out];cases q2 <;> rfl,⟨by rw [HR.out];exact HK1.out.below HB3.out,HSP.out⟩,HM1.out.trans (Mv.of_below b HB3.out)⟩
theorem kmove_any (w0 w:World) (b lvl:Nat) (s:Nat×Nat×Nat) (m:GM) (ev:EV) (X:ByteArray) (A1 A2:Option Addr) (c1 c2:Nat) (hE:Ee w0) (h:KS w0 w b lvl s) (hb:w0.heap.size<=b) (hs:Rm s) (hX:txV m.event=.string X) (hg:GV w0 0 w0.heap.size m.guard ev) (ha:DxAt w0 (gActs m.acts) (.slice A1 m.acts.length c1)) (ht:DxAt w0 (dvStrs m.targets) (.slice A2 m.targets.length c2)) (hr:m.rng) (hl:m.acts.length<=1000000000000000) :
  Calls Tryz.prog 194 #[.pointer (some ⟨b,0,none⟩),.agg #[.int .i64 m.kind,.string X,.int .i64 m.wait,.bool m.guarded,.int .i64 ev.kind,.int .i64 ev.num,.string ev.name,.int .i64 ev.op,.slice ev.A ev.len ev.cap,.int .i64 ev.p,.slice A1 m.acts.length c1,.slice A2 m.targets.length c2,.int .i64 m.at_]] w λ e w'=>e=.returned (.bool (mvS s m).1)/\(KS w0 w' b lvl (mvS s m).2/\((mvS s m).1=true->Rm (mvS s m).2))/\Mv b w w':=by
 have HSP:=h_ (λ h=>((mvS_spec s m hs).1 h).1)
 obtain ⟨W1,hW1⟩:∃W,W=w.alloc (.cells #[.int .i64 m.kind,.string X,.int .i64 m.wait,.bool m.guarded,.int .i64 ev.kind,.int .i64 ev.num,.string ev.name,.int .i64 ev.op,.slice ev.A ev.len ev.cap,.int .i64 ev.p,.slice A1 m.acts.length c1,.slice A2 m.targets.length c2,.int .i64 m.at_] 57):=⟨_,rfl⟩
 obtain ⟨g1,hg1⟩:∃g,g=w.heap.size:=⟨_,rfl⟩
 have hal:Below w.heap.size w W1:=by rw [hW1];exact (b_ _ w).alloc (n_ _) _
 have HX:Hid (CB W1 g1 57 [.int .i64 m.kind,.string X,.int .i64 m.wait,.bool m.guarded,.int .i64 ev.kind,.int .i64 ev.num,.string ev.name,.int .i64 ev.op,.slice ev.A ev.len ev.cap,.int .i64 ev.p,.slice A1 m.acts.length c1,.slice A2 m.targets.length c2,.int .i64 m.at_]/\KS w0 W1 b lvl s/\Mv b w W1):=⟨by rw [hW1,hg1];exact CB.new w _ [.int .i64 m.kind,.string X,.int .i64 m.wait,.bool m.guarded,.int .i64 ev.kind,.int .i64 ev.num,.string ev.name,.int .i64 ev.op,.slice ev.A ev.len ev.cap,.int .i64 ev.p,.slice A1 m.acts.length c1,.slice A2 m.targets.length c2,.int .i64 m.at_],h.below hal,Mv.of_below b hal⟩
 have HGB:Hid (g1≠b):=by have:=h.2.lt;rw [hg1];exact λ e=>by omega
 have gvW:∀W:World,Below w0.heap.size w0 W->GV W 0 W.heap.size m.guard ev:=λ W hb=>(GV.below hg hb (n_ _)).mono (n_ 0) hb.size;have H1:=h_ (trig_any W1 m ev X A1 A2 c1 c2 hX hr (hE.below HX.out.2.1.1).vr.kw);have H2:=h_ (λ (W:World) (hb:Below w0.heap.size w0 W)=>grd_any W m ev X A1 A2 c1 c2 (gvW W hb) hr (hE.below hb));have H3:=h_ (λ (W:World) (hk:KS w0 W b lvl s)=>kblock_any w0 W b lvl s m.acts A1 c1 hE hk hb hs ha hr.2.2.2.1 hl)
 have htl:m.targets.length<=9223372036854775807:=by
  have h1:=(strs_sl ht).1;have h2:=(strs_sl ht).2.1
  have:maxLen<=9223372036854775807:=by decide
  omega
 have H4:=h_ (λ (W:World) (hb:Below w0.heap.size w0 W)=>everyS_any W m.targets A2 c2 m.targets.length rfl htl (allS_of ht hE hr.2.2.2.2 hb))
 obtain ⟨q1,hq1⟩:∃q,trig m=q:=⟨_,rfl⟩
 obtain ⟨q2,hq2⟩:∃q,grd m=q:=⟨_,rfl⟩
 obtain ⟨⟨q3,s3⟩,hq3⟩:∃q,blkC s m.acts=q:=⟨_,rfl⟩
 obtain ⟨q4,hq4⟩:∃q,m.targets.all isNm=q:=⟨_,rfl⟩
 have HR:Hid (mvS s m=if (q1&&q2)=true then (q3&&q4,s3) else (false,s)):=by
  show _=_;unfold mvS;rw [hq1,hq2,hq3,hq4]
 rw [hq1] at H1;rw [hq2] at H2;rw [hq3] at H3;simp only at H3;rw [hq4] at H4;have z0:=HX.out.1.c 0 rfl;have z1:=HX.out.1.c 1 rfl;have z2:=HX.out.1.c 2 rfl;have z3:=HX.out.1.c 3 rfl;have z4:=HX.out.1.c 4 rfl;have z5:=HX.out.1.c 5 rfl;have z6:=HX.out.1.c 6 rfl;have z7:=HX.out.1.c 7 rfl;have z8:=HX.out.1.c 8 rfl;have z9:=HX.out.1.c 9 rfl;have z10:=HX.out.1.c 10 rfl;have z11:=HX.out.1.c 11 rfl;have z12:=HX.out.1.c 12 rfl;clear h hal hb hs hX hg ha ht hr hE hq1 hq2 hq3 hq4 gvW htl hl;go_enter Tryz.func194,Tryz.ntmps194;go_upto_region 1 with fail;rw [<-hW1,<-hg1];clear hW1 hg1;cases q1
 ·go_wp2_with fail;refine H1.out.mono ?_;rintro e w2 ⟨rfl,hb⟩;have HF:=h_ (And.intro (HX.out.2.1.below hb) (HX.out.2.2.trans (Mv.of_below b hb)));clear hb H1 H2 H3 H4;go_wp2_with fail;go_ret;exact ⟨by rw [HR.out];rfl,⟨by rw [HR.out];exact HF.out.1,HSP.out⟩,HF.out.2⟩
 ·cases q2
  ·go_wp2_with fail;refine H1.out.mono ?_;rintro e w2 ⟨rfl,hb⟩;have HX2:=h_ (And.intro (HX.out.1.below hb) (And.intro (HX.out.2.1.below hb) (HX.out.2.2.trans (Mv.of_below b hb))));clear hb H1 z0 z1 z2 z3 z4 z5 z6 z7 z8 z9 z10 z11 z12 HX;have z0:=HX2.out.1.c 0 rfl;have z1:=HX2.out.1.c 1 rfl;have z2:=HX2.out.1.c 2 rfl;have z3:=HX2.out.1.c 3 rfl;have z4:=HX2.out.1.c 4 rfl;have z5:=HX2.out.1.c 5 rfl;have z6:=HX2.out.1.c 6 rfl;have z7:=HX2.out.1.c 7 rfl;have z8:=HX2.out.1.c 8 rfl;have z9:=HX2.out.1.c 9 rfl;have z10:=HX2.out.1.c 10 rfl;have z11:=HX2.out.1.c 11 rfl;have z12:=HX2.out.1.c 12 rfl;go_wp2_with fail;refine (H2.out w2 HX2.out.2.1.1).mono ?_;rintro e w3 ⟨rfl,hb⟩;have HF:=h_ (And.intro (HX2.out.2.1.below hb) (HX2.out.2.2.trans (Mv.of_below b hb)));clear hb H2 H3 H4;go_wp2_with fail;go_ret;exact ⟨by rw [HR.out];rfl,⟨by rw [HR.out];exact HF.out.1,HSP.out⟩,HF.out.2⟩
  ·cases q3
   ·go_wp2_with fail;refine H1.out.mono ?_;rintro e w2 ⟨rfl,hb⟩;have HX2:=h_ (And.intro (HX.out.1.below hb) (And.intro (HX.out.2.1.below hb) (HX.out.2.2.trans (Mv.of_below b hb))));clear hb H1 z0 z1 z2 z3 z4 z5 z6 z7 z8 z9 z10 z11 z12 HX;have z0:=HX2.out.1.c 0 rfl;have z1:=HX2.out.1.c 1 rfl;have z2:=HX2.out.1.c 2 rfl;have z3:=HX2.out.1.c 3 rfl;have z4:=HX2.out.1.c 4 rfl;have z5:=HX2.out.1.c 5 rfl;have z6:=HX2.out.1.c 6 rfl;have z7:=HX2.out.1.c 7 rfl;have z8:=HX2.out.1.c 8 rfl;have z9:=HX2.out.1.c 9 rfl;have z10:=HX2.out.1.c 10 rfl;have z11:=HX2.out.1.c 11 rfl;have z12:=HX2.out.1.c 12 rfl;go_wp2_with fail;refine (H2.out w2 HX2.out.2.1.1).mono ?_;rintro e w3 ⟨rfl,hb⟩;have HX3:=h_ (And.intro (HX2.out.1.below hb) (And.intro (HX2.out.2.1.below hb) (HX2.out.2.2.trans (Mv.of_below b hb))));clear hb H2 z0 z1 z2 z3 z4 z5 z6 z7 z8 z9 z10 z11 z12 HX2;have z0:=HX3.out.1.c 0 rfl;have z1:=HX3.out.1.c 1 rfl;have z2:=HX3.out.1.c 2 rfl;have z3:=HX3.out.1.c 3 rfl;have z4:=HX3.out.1.c 4 rfl;have z5:=HX3.out.1.c 5 rfl;have z6:=HX3.out.1.c 6 rfl;have z7:=HX3.out.1.c 7 rfl;have z8:=HX3.out.1.c 8 rfl;have z9:=HX3.out.1.c 9 rfl;have z10:=HX3.out.1.c 10 rfl;have z11:=HX3.out.1.c 11 rfl;have z12:=HX3.out.1.c 12 rfl;go_wp2_with fail;refine (H3.out w3 HX3.out.2.1).mono ?_;rintro e w4 ⟨rfl,hk,hm⟩;have HF:=h_ (And.intro hk.1 (HX3.out.2.2.trans hm));clear hk hm H3 H4;go_wp2_with fail;go_ret;exact ⟨by rw [HR.out];rfl,⟨by rw [HR.out];exact HF.out.1,HSP.out⟩,HF.out.2⟩
   ·cases q4
    ·go_wp2_with fail;refine H1.out.mono ?_;rintro e w2 ⟨rfl,hb⟩;have HX2:=h_ (And.intro (HX.out.1.below hb) (And.intro (HX.out.2.1.below hb) (HX.out.2.2.trans (Mv.of_below b hb))));clear hb H1 z0 z1 z2 z3 z4 z5 z6 z7 z8 z9 z10 z11 z12 HX;have z0:=HX2.out.1.c 0 rfl;have z1:=HX2.out.1.c 1 rfl;have z2:=HX2.out.1.c 2 rfl;have z3:=HX2.out.1.c 3 rfl;have z4:=HX2.out.1.c 4 rfl;have z5:=HX2.out.1.c 5 rfl;have z6:=HX2.out.1.c 6 rfl;have z7:=HX2.out.1.c 7 rfl;have z8:=HX2.out.1.c 8 rfl;have z9:=HX2.out.1.c 9 rfl;have z10:=HX2.out.1.c 10 rfl;have z11:=HX2.out.1.c 11 rfl;have z12:=HX2.out.1.c 12 rfl;go_wp2_with fail;refine (H2.out w2 HX2.out.2.1.1).mono ?_;rintro e w3 ⟨rfl,hb⟩;have HX3:=h_ (And.intro (HX2.out.1.below hb) (And.intro (HX2.out.2.1.below hb) (HX2.out.2.2.trans (Mv.of_below b hb))));clear hb H2 z0 z1 z2 z3 z4 z5 z6 z7 z8 z9 z10 z11 z12 HX2;have z0:=HX3.out.1.c 0 rfl;have z1:=HX3.out.1.c 1 rfl;have z2:=HX3.out.1.c 2 rfl;have z3:=HX3.out.1.c 3 rfl;have z4:=HX3.out.1.c 4 rfl;have z5:=HX3.out.1.c 5 rfl;have z6:=HX3.out.1.c 6 rfl;have z7:=HX3.out.1.c 7 rfl;have z8:=HX3.out.1.c 8 rfl;have z9:=HX3.out.1.c 9 rfl;have z10:=HX3.out.1.c 10 rfl;have z11:=HX3.out.1.c 11 rfl;have z12:=HX3.out.1.c 12 rfl;go_wp2_with fail;refine (H3.out w3 HX3.out.2.1).mono ?_;rintro e w4 ⟨rfl,hk,hm⟩;have HX4:=h_ (And.intro (HX3.out.1.mv hm HGB.out) (And.intro hk.1 (HX3.out.2.2.trans hm)));clear hk hm H3 z0 z1 z2 z3 z4 z5 z6 z7 z8 z9 z10 z11 z12 HX3;have z11:=HX4.out.1.c 11 rfl;go_wp2_with fail;refine (H4.out w4 HX4.out.2.1.1).mono ?_;rintro e w5 ⟨rfl,hb⟩;have HF:=h_ (And.intro (HX4.out.2.1.below hb) (HX4.out.2.2.trans (Mv.of_below b hb)));clear hb H4 z11;go_wp2_with fail;go_ret;exact ⟨by rw [HR.out];rfl,⟨by rw [HR.out];exact HF.out.1,HSP.out⟩,HF.out.2⟩
    ·go_wp2_with fail;refine H1.out.mono ?_;rintro e w2 ⟨rfl,hb⟩;have HX2:=h_ (And.intro (HX.out.1.below hb) (And.intro (HX.out.2.1.below hb) (HX.out.2.2.trans (Mv.of_below b hb))));clear hb H1 z0 z1 z2 z3 z4 z5 z6 z7 z8 z9 z10 z11 z12 HX;have z0:=HX2.out.1.c 0 rfl;have z1:=HX2.out.1.c 1 rfl;have z2:=HX2.out.1.c 2 rfl;have z3:=HX2.out.1.c 3 rfl;have z4:=HX2.out.1.c 4 rfl;have z5:=HX2.out.1.c 5 rfl;have z6:=HX2.out.1.c 6 rfl;have z7:=HX2.out.1.c 7 rfl;have z8:=HX2.out.1.c 8 rfl;have z9:=HX2.out.1.c 9 rfl;have z10:=HX2.out.1.c 10 rfl;have z11:=HX2.out.1.c 11 rfl;have z12:=HX2.out.1.c 12 rfl;go_wp2_with fail;refine (H2.out w2 HX2.out.2.1.1).mono ?_;rintro e w3 ⟨rfl,hb⟩;have HX3:=h_ (And.intro (HX2.out.1.below hb) (And.intro (HX2.out.2.1.below hb) (HX2.out.2.2.trans (Mv.of_below b hb))));clear hb H2 z0 z1 z2 z3 z4 z5 z6 z7 z8 z9 z10 z11 z12 HX2;have z0:=HX3.out.1.c 0 rfl;have z1:=HX3.out.1.c 1 rfl;have z2:=HX3.out.1.c 2 rfl;have z3:=HX3.out.1.c 3 rfl;have z4:=HX3.out.1.c 4 rfl;have z5:=HX3.out.1.c 5 rfl;have z6:=HX3.out.1.c 6 rfl;have z7:=HX3.out.1.c 7 rfl;have z8:=HX3.out.1.c 8 rfl;have z9:=HX3.out.1.c 9 rfl;have z10:=HX3.out.1.c 10 rfl;have z11:=HX3.out.1.c 11 rfl;have z12:=HX3.out.1.c 12 rfl;go_wp2_with fail;refine (H3.out w3 HX3.out.2.1).mono ?_;rintro e w4 ⟨rfl,hk,hm⟩;have HX4:=h_ (And.intro (HX3.out.1.mv hm HGB.out) (And.intro hk.1 (HX3.out.2.2.trans hm)));clear hk hm H3 z0 z1 z2 z3 z4 z5 z6 z7 z8 z9 z10 z11 z12 HX3;have z11:=HX4.out.1.c 11 rfl;go_wp2_with fail;refine (H4.out w4 HX4.out.2.1.1).mono ?_;rintro e w5 ⟨rfl,hb⟩;have HF:=h_ (And.intro (HX4.out.2.1.below hb) (HX4.out.2.2.trans (Mv.of_below b hb)));clear hb H4 z11;go_wp2_with fail;go_ret;exact ⟨by rw [HR.out];rfl,⟨by rw [HR.out];exact HF.out.1,HSP.out⟩,HF.out.2⟩
end Go.Proofs.YtocecpghoncmgaaGreatDoor
