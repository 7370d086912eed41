import Derived.Test.YtpgeidpfhakgaaaGreatDoorQh
import Derived.Test.YtpgeidpfhakgaaaGreatDoorYE
import Derived.Test.YtpgeidpfhakgaaaGreatDoorQXF
import Derived.Test.YtpgeidpfhakgaaaGreatDoorQXE
import Derived.Deep.QuietTactic
import Derived.BigQuiet
import Derived.StillTailTactics
import Derived.Deep.Slices
import Derived.SizedLaws
import Derived.OpenShut
import Derived.Test.YtpgeidpfhakgaaaGreatDoorQXA
import Derived.Lib.SlicesS
import Derived.Deep.RegionHeld3
import Derived.Laws.OwnMore
import Derived.Laws.AppendOwnNone
import Derived.ArgAppend
import Derived.Maps.AppendAt
import Derived.Deep.RegionLawGrows
set_option maxHeartbeats 12800000
set_option maxRecDepth 20000
namespace Go.Proofs.YtpgeidpfhakgaaaGreatDoor
open Go.RowKit
def vR (k:Nat) (s:Ss):Rs SyVar:=(vnameR k s.drop).bind λ x s1=>(mustR 4 [61] s1).bind λ _ s2=>(vnumR s2).bind λ v s3=>(mustR 4 [59] s3).bind λ _ s4=>.ok ⟨x.1,v,x.2⟩ s4
theorem var_step {l:List SyVar} {s:Ss} (h:isAt 2 wVar s.ts=true):varS l s=(vR l.length s).bind λ x s'=>.ok (l++[x],true) s':=by
 unfold varS vR;rw [if_pos h];simp only [Rs.assoc];rfl
theorem vname_eq {k:Nat} (hk:k<=16) (s:Ss):vnameR k s=(nameR s).bind λ x s1=>(cntV k x.2 s1).bind λ _ s2=>.ok x s2:=by
 unfold vnameR nameR
 cases hs:s.ts with
 |nil=>rfl
 |cons t r =>
  simp only
  by_cases hk1:t.kind=1
  ·rw [if_pos hk1,if_pos hk1];show _=(cntV k t.at_ ⟨r,s.n,s.m,s.a⟩).bind _;unfold cntV
   by_cases h4:k=16
   ·rw [if_pos h4,if_pos (by omega)];rfl
   ·rw [if_neg h4,if_neg (by omega)];rfl
  ·rw [if_neg hk1,if_neg hk1,wrongR_cons]
   split <;> rfl
theorem vnum_eq {m:Rs Unit} {z z':Int} (hz:((m.go (skipR 4 [45])).go numR).is z) (h0:(m.tell λ s=>isAt 4 [45] s.ts)=false->z'=z) (h1:(m.tell λ s=>isAt 4 [45] s.ts)=true->∀s',(m.go (skipR 4 [45])).go numR=.ok z s'->z'=-z) :
  (m.go vnumR).is z'/\(m.go vnumR).void=((m.go (skipR 4 [45])).go numR).void:=by
 cases m with
 |out=>exact ⟨λ _ _ h=>(by cases h),rfl⟩
 |bad c p=>exact ⟨λ _ _ h=>(by cases h),rfl⟩
 |ok u s =>
  by_cases c:isAt 4 [45] s.ts=true
  ·have e1:(Rs.ok u s).go (skipR 4 [45])=.ok () s.drop:=by show skipR 4 [45] s=_;unfold skipR;rw [if_pos c]
   have e2:(Rs.ok u s).go vnumR=(numR s.drop).bind λ x s=>.ok (-x) s:=by show vnumR s=_;unfold vnumR;rw [if_pos c]
   rw [e1] at hz h1 ⊢;rw [e2];have h1':=h1 c;have hz':(numR s.drop).is z:=hz;change (∀s',numR s.drop=.ok z s'->z'=-z) at h1';show _/\_=(numR s.drop).void
   cases en:numR s.drop with
   |out=>exact ⟨λ _ _ h=>(by cases h),rfl⟩
   |bad c p=>exact ⟨λ _ _ h=>(by cases h),rfl⟩
   |ok y s' =>
    obtain rfl:=hz' y s' en;refine ⟨?_,rfl⟩;rw [h1' s' en];exact Rs.is_ok rfl
  ·have e1:(Rs.ok u s).go (skipR 4 [45])=.ok () s:=by show skipR 4 [45] s=_;unfold skipR;rw [if_neg c]
   have e2:(Rs.ok u s).go vnumR=numR s:=by show vnumR s=_;unfold vnumR;rw [if_neg c]
   rw [e1] at hz ⊢;rw [e2,h0 (by show isAt 4 [45] s.ts=false;simpa using c)];exact ⟨hz,rfl⟩
theorem var_eq {k:Nat} (hk:k<=16) {s:Ss} {m1 m2 m3:Rs Unit} {x:List UInt8} {p z':Int} (his:((Rs.ok () s.drop).go nameR).is (x,p)) (h1:((Rs.ok () s.drop).go nameR).void=m1) (h2:m1.go (cntV k p)=m2) (h3:m2.go (mustR 4 [61])=m3) (hz:(m3.go vnumR).is z') :
  vR k s=((m3.go vnumR).void.go (mustR 4 [59])).go λ s=>.ok ⟨x,z',p⟩ s:=by
 have e1:vR k s=((Rs.ok () s.drop).go nameR).bind λ x s1=>(cntV k x.2 s1).bind λ _ s2=>(mustR 4 [61] s2).bind λ _ s2=>(vnumR s2).bind λ v s3=>(mustR 4 [59] s3).bind λ _ s4=>.ok ⟨x.1,v,x.2⟩ s4:=by
  unfold vR;rw [vname_eq hk];simp only [Rs.assoc];rfl
 have e2:(m1.go λ s1=>(cntV k p s1).bind λ _ s2=>(mustR 4 [61] s2).bind λ _ s2=>(vnumR s2).bind λ v s3=>(mustR 4 [59] s3).bind λ _ s4=>(.ok ⟨x,v,p⟩ s4:Rs SyVar))=(m3.go vnumR).bind λ v s3=>(mustR 4 [59] s3).bind λ _ s4=>.ok ⟨x,v,p⟩ s4:=by
  rw [<-h3,<-h2,go_go,go_go,<-go_bind]
  congr 1
  funext s1
  cases cntV k p s1 with
  |out=>rfl
  |bad c p=>rfl
  |ok u s2 =>
   show (mustR 4 [61] s2).bind _=((mustR 4 [61] s2).go vnumR).bind _
   cases mustR 4 [61] s2 <;> rfl
 rw [e1,Rs.seq his,h1,e2,Rs.seq hz];exact (must_fin _ _).symm
def zVar:List Value:=[.string ⟨#[]⟩,.int .i64 0,.int .i64 0]
def VrEnd (w:World) (b:Nat) (K:Kx) (D:Int) (k:Nat) (s:Ss) (e:Ending) (w':World):Prop :=
 ∃x:SyVar,e=.returned (.agg #[txV x.name,.int .i64 x.num,.int .i64 x.at_])/\(vR k s).is x/\(∃V',PS w' b K V' D (vR k s).void/\∀s',(vR k s).void=.ok () s'->V'=((k+1:Nat):Int)/\k+1<=16)/\Mv b w w'
theorem var_many {k:Nat} (hk:k<=16) {p V':Int} {m1 m2 m3:Rs Unit} {s':Ss} (h2:m1.go (cntV k p)=m2) (h3:m2.go (mustR 4 [61])=m3) (hV:∀s,m1=.ok () s->V'=((k+1:Nat):Int)) (e:(m3.go vnumR).void.go (mustR 4 [59])=.ok () s'):V'=((k+1:Nat):Int)/\k+1<=16:=by
 subst h2 h3
 cases m1 with
 |out=>cases e
 |bad c p=>cases e
 |ok u s =>
  refine ⟨hV s rfl,?_⟩;have e':((((cntV k p s).go (mustR 4 [61])).go vnumR).void.go (mustR 4 [59]))=.ok () s':=e;unfold cntV at e'
  by_cases c:16<k+1
  ·rw [if_pos c] at e';cases e'
  ·omega
theorem svar_any (w:World) (b:Nat) (K:Kx) (V D:Int) (s:Ss) (k:Nat) (h:PS w b K V D (.ok () s)) (hV:V=(k:Int)/\k<=16) (hk:isAt 2 wVar s.ts=true) :
  Calls Tryz.prog 79 #[.pointer (some ⟨b,0,none⟩)] w (VrEnd w b K D k s):=by
 obtain ⟨gr,hgr⟩:∃g,g=w.heap.size:=⟨_,rfl⟩
 obtain ⟨W0,hW0⟩:∃W0,W0=w.alloc (.cells #[.string ⟨#[]⟩,.int .i64 0,.int .i64 0] 74):=⟨_,rfl⟩
 have HR:Hid (CB W0 gr 74 zVar):=by rw [hW0,hgr];exact CB.new w _ zVar
 have HB0:Hid (Below w.heap.size w W0):=by rw [hW0];exact (b_ _ w).alloc (n_ _) _
 have hbw:=h.blt
 have hgrw:w.heap.size<=gr:=by omega
 have HC0:=h_ (sneed_any W0 b K V D (.ok () s) (h.below HB0.out) ⟨#[118,97,114]⟩ 2 (tells_kw (by decide)) (by decide));have HVV:=h_ hV;have HKK:=h_ hk;clear h hV hk;go_enter Tryz.func79,Tryz.ntmps79;go_upto_region 1 with fail;rw [<-hW0,<-hgr];clear hW0 hgr;go_wp2_with fail;refine HC0.out.mono ?_;rintro e w1 ⟨rfl,hp,hm⟩
 have em:(Rs.ok () s).go (mustR 2 (⟨#[118,97,114]⟩:ByteArray).data.toList)=.ok () s.drop:=by
  show mustR 2 wVar s=_;unfold mustR;rw [if_pos HKK.out]
 rw [em] at hp;have HR1:=h_ (HR.out.mv hm (by omega));have HM1:=h_ ((Mv.of b HB0.out).trans hm);have HC1:=h_ (sname_any w1 b K V D (.ok () s.drop) hp);clear hp hm em HC0 HR HB0 HKK;go_wp2_with fail;refine HC1.out.mono ?_;rintro e w2 ⟨t',rfl,his,hp,hm⟩;obtain ⟨X,hX⟩:=str_of t'.text;have HXX:=h_ hX;unfold tkV;rw [hX]
 obtain ⟨g3,hg3⟩:∃g,g=w2.heap.size:=⟨_,rfl⟩
 obtain ⟨W2,hW2⟩:∃W2,W2=w2.alloc (.cells #[.int .i64 t'.kind,.string X,.int .i64 t'.num,.int .i64 t'.at_] 131):=⟨_,rfl⟩
 have hb2:Below w2.heap.size w2 W2:=by rw [hW2];exact (b_ _ w2).alloc (n_ _) _
 have HT2:Hid (TkB W2 g3 (.int .i64 t'.kind) (.string X) (.int .i64 t'.num) (.int .i64 t'.at_)):=by rw [hW2,hg3];exact TkB.new _ _ _ _ _
 have HM2:Hid (Mv b w W2):=(HM1.out.trans hm).trans (Mv.of b hb2);have HR2:=h_ ((HR1.out.mv hm (by omega)).below hb2);have HIS:=h_ his
 obtain ⟨m1,hm1⟩:∃m1,((Rs.ok () s.drop).go nameR).void=m1:=⟨_,rfl⟩
 rw [hm1] at hp;have HM1E:=h_ hm1;have hv1:∀s',m1=.ok () s'->V=(k:Int)/\k<=16:=λ _ _=>HVV.out;have HP2:=h_ (hp.below hb2)
 have hg3b:gr<g3:=by have:=(HR1.out.mv hm (by omega)).lt;omega
 have HTV:Hid (tkV t'=.agg #[.int .i64 t'.kind,.string X,.int .i64 t'.num,.int .i64 t'.at_]):=by show _=_;unfold tkV;rw [hX]
 have HCN:=h_ (λ n=>scount_V (W2.drewN n) b K V D m1 t' (HP2.out.below (drewN_below W2 n)) k hv1);rw [HTV.out] at HCN;clear hp hm hb2 hX HC1 HR1 his hm1 hv1 HM1;go_upto_region 3 with fail;rw [<-hW2,<-hg3];clear hW2 hg3;have z0:=HT2.out.c0;have z1:=HT2.out.c1;have z2:=HT2.out.c2;have z3:=HT2.out.c3
 go_cut [] from 14 to 19 (λ wr=>(∃V',PS wr b K V' D (m1.go (cntV k t'.at_))/\∀s,m1=.ok () s->V'=((k+1:Nat):Int))/\Hid (Mv b W2 wr))
 case first =>
  go_region_with (go_at_call 114;refine (HCN.out _).mono ?_;rintro e w2 ⟨rfl,hp2,hm2⟩)
  all_goals
   go_wp2_with fail
   go_meet
   exact ⟨hp2,h_ ((Mv.of b (drewN_below W2 _)).trans hm2)⟩
 case rest =>
 obtain ⟨⟨V',hp3,hV3⟩,HM3⟩:=hcut
 obtain ⟨w3,hw3⟩:∃w3,w3=wc:=⟨_,rfl⟩
 subst hw3;have HV3:=h_ hV3
 obtain ⟨m2,hm2⟩:∃m2,m1.go (cntV k t'.at_)=m2:=⟨_,rfl⟩
 rw [hm2] at hp3;have HM2E:=h_ hm2;have HP3:=h_ hp3;have HT3:=h_ (HT2.out.mv HM3.out (by omega));have HR3:=h_ (HR2.out.mv HM3.out (by omega));have HMA:=h_ (HM2.out.trans HM3.out);clear hV3 hm2 hp3 HM3 HT2 HR2 HM2 HP2 HCN z0 z1 z2 z3 HTV;have z0:=HT3.out.c0;have z1:=HT3.out.c1;have z2:=HT3.out.c2;have z3:=HT3.out.c3
 obtain ⟨gv,hgv⟩:∃g,g=w3.heap.size:=⟨_,rfl⟩
 obtain ⟨W4,hW4⟩:∃W4,W4=w3.alloc (.cells #[.string X,.int .i64 0,.int .i64 t'.at_] 74):=⟨_,rfl⟩
 have hb4:Below w3.heap.size w3 W4:=by rw [hW4];exact (b_ _ w3).alloc (n_ _) _
 have HX4:Hid (CB W4 gv 74 [.string X,.int .i64 0,.int .i64 t'.at_]):=by rw [hW4,hgv];exact CB.new w3 _ _
 have HR4:=h_ (HR3.out.below hb4)
 have hgv3:g3<gv:=by have hh:g3<w3.heap.size:=World.block_lt_of_cell? w3 _ HT3.out.c0;omega
 have HMB:=h_ (HMA.out.trans (Mv.of b hb4));have HC4:=h_ (sneed_any W4 b K V' D m2 (HP3.out.below hb4) ⟨#[61]⟩ 4 (tells_sg (by decide)) (by decide));clear hb4 HP3 HR3 HMA HT3;go_upto_region 5 with fail;rw [<-hW4,<-hgv];clear hW4 hgv z0 z1 z2 z3;go_wp2_with fail;refine HC4.out.mono ?_;rintro e w5 ⟨rfl,hp,hm⟩
 obtain ⟨m3,hm3⟩:∃m3,m2.go (mustR 4 [61])=m3:=⟨_,rfl⟩
 replace hp:PS w5 b K V' D m3:=by rw [<-hm3];exact hp
 have HM3E:=h_ hm3;have HX5:=h_ (HX4.out.mv hm (by omega));have HR5:=h_ (HR4.out.mv hm (by omega));have HM5:=h_ (HMB.out.trans hm);have HC5:=h_ (sskip_any w5 b K V' D m3 hp ⟨#[45]⟩ 4 (tells_sg (by decide)) (by decide));clear hp hm hm3 HC4 HX4 HR4 HMB;go_wp2_with fail;refine HC5.out.mono ?_;rintro e w6 ⟨rfl,hp,hm⟩
 obtain ⟨nb,hnb⟩:∃d,(m3.tell λ s=>isAt 4 [45] s.ts)=d:=⟨_,rfl⟩
 replace hnb:(m3.tell λ s=>isAt 4 (⟨#[45]⟩:ByteArray).data.toList s.ts)=nb:=hnb;rw [hnb];have HNB:=h_ (show (m3.tell λ s=>isAt 4 [45] s.ts)=nb from hnb);replace hp:PS w6 b K V' D (m3.go (skipR 4 [45])):=hp;have HX6:=h_ (HX5.out.mv hm (by omega));have HR6:=h_ (HR5.out.mv hm (by omega));have HM6:=h_ (HM5.out.trans hm)
 have HBD:Hid (∀z s',(m3.go (skipR 4 [45])).go numR=.ok z s'->0<=z/\z<=9223372036854775807):=λ z s' e=>by
  cases e4:m3.go (skipR 4 [45]) with
  |out=>rw [e4] at e;cases e
  |bad c p=>rw [e4] at e;cases e
  |ok u s4 =>
   rw [e4] at e;obtain ⟨t,r,h1,_,h2,_,_⟩:=hp.head e4;have e':numR s4=.ok z s':=e;unfold numR at e';rw [h1] at e';simp only at e'
   split at e'
   ·rename_i hk3;have:=h2.2 hk3;have e5:t.num=z:=(Rs.ok.inj e').1;omega
   ·exact absurd e' wrong_ne
 have HC6:=h_ (sinteger_any w6 b K V' D _ hp);clear hp hm hnb HC5 HX5 HR5 HM5;go_wp2_with fail;refine HC6.out.mono ?_;rintro e w7 ⟨z,rfl,his,hp,hm⟩;have HIZ:=h_ his;have HP7:=h_ hp;have HX7:=h_ (HX6.out.mv hm (by omega));have HR7:=h_ (HR6.out.mv hm (by omega));have HM7:=h_ (HM6.out.trans hm);clear his hp hm HC6 HX6 HR6 HM6
 cases nb with
 |true =>
  obtain ⟨W8,hW8⟩:∃W8,W8=(w7.setCell ⟨gv,1,none⟩ (.int .i64 z)).setCell ⟨gv,1,none⟩ (.int .i64 (wrap64 (-z))):=⟨_,rfl⟩
  have hm8:Mv gv w7 W8:=by rw [hW8];exact ((Mv.refl gv w7).set 1 _).set 1 _
  have hvn:=vnum_eq (z':=(wrap64 (-z))) HIZ.out (λ h=>by rw [HNB.out] at h;cases h) (λ _ s' e=>by have:=HBD.out z s' e;unfold wrap64;omega)
  obtain ⟨m6,hm6⟩:∃m6,(m3.go vnumR).void=m6:=⟨_,rfl⟩
  have HP8:Hid (PS W8 b K V' D m6):=by
   rw [<-hm6,hvn.2];exact HP7.out.ch (Ch.of_mv hm8) (λ k e=>by have e':k=gv:=e;omega)
  have HX8:Hid (CB W8 gv 74 [.string X,.int .i64 (wrap64 (-z)),.int .i64 t'.at_]):=by rw [hW8];exact (HX7.out.set 1 (.int .i64 z)).set 1 (.int .i64 (wrap64 (-z)))
  have HR8:=h_ (HR7.out.mv hm8 (by omega))
  have HM8:Hid (Mv b w W8):=by rw [hW8];exact (HM7.out.put 1 gv (by omega) (.int .i64 z)).put 1 gv (by omega) (.int .i64 (wrap64 (-z)))
  have HVN:=h_ hvn.1;have HM6E:=h_ hm6;have c1:=HX7.out.c 1 rfl;have f1:=HX7.out.fr 1;have HC8:=h_ (sneed_any W8 b K V' D m6 HP8.out ⟨#[59]⟩ 4 (tells_sg (by decide)) (by decide));clear hm8 hvn hm6 HR7 HM7 HP7;go_upto_region 10 with fail;rw [<-hW8];clear hW8 c1 f1 HX7;go_wp2_with fail;refine HC8.out.mono ?_;rintro e w9 ⟨rfl,hp,hm⟩;have HX9:=h_ (HX8.out.mv hm (by omega));have HR9:=h_ (HR8.out.mv hm (by omega));have HM9:=h_ (HM8.out.trans hm);have HP9:=h_ hp;clear hp hm HC8 HR8 HM8 HX8;have n0:=HX9.out.c 0 rfl;have n1:=HX9.out.c 1 rfl;have n2:=HX9.out.c 2 rfl;have q0:=HR9.out.c 0 rfl;have q1:=HR9.out.c 1 rfl;have q2:=HR9.out.c 2 rfl;have f0:=HR9.out.fr 0;have f1:=HR9.out.fr 1;have f2:=HR9.out.fr 2;go_wp2_with fail;have hres:=HR9.out.all [.string X,.int .i64 (wrap64 (-z)),.int .i64 t'.at_] rfl;have hmf:=sets_put HM9.out hgrw 0 [.string X,.int .i64 (wrap64 (-z)),.int .i64 t'.at_];have hpf:=HP9.out.sets (g:=gr) (by omega) 0 [.string X,.int .i64 (wrap64 (-z)),.int .i64 t'.at_];simp only [sets,Nat.reduceAdd] at hres hmf hpf;refine bodyPost_ret (resVar rfl _ rfl hres) rfl ?_;have hEQ:=var_eq HVV.out.2 HIS.out HM1E.out HM2E.out HM3E.out HVN.out;refine ⟨⟨t'.text,(wrap64 (-z)),t'.at_⟩,by rw [HXX.out],?_,⟨V',?_,λ s' e=>?_⟩,hmf⟩
  ·rw [hEQ];exact go_ok_is _ _
  ·rw [hEQ,go_ok_void,HM6E.out];exact hpf
  ·rw [hEQ,go_ok_void] at e;exact var_many HVV.out.2 HM2E.out HM3E.out HV3.out e
 |false =>
  obtain ⟨W8,hW8⟩:∃W8,W8=w7.setCell ⟨gv,1,none⟩ (.int .i64 z):=⟨_,rfl⟩
  have hm8:Mv gv w7 W8:=by rw [hW8];exact (Mv.refl gv w7).set 1 _
  have hvn:=vnum_eq (z':=z) HIZ.out (λ _=>rfl) (λ h=>by rw [HNB.out] at h;cases h)
  obtain ⟨m6,hm6⟩:∃m6,(m3.go vnumR).void=m6:=⟨_,rfl⟩
  have HP8:Hid (PS W8 b K V' D m6):=by
   rw [<-hm6,hvn.2];exact HP7.out.ch (Ch.of_mv hm8) (λ k e=>by have e':k=gv:=e;omega)
  have HX8:Hid (CB W8 gv 74 [.string X,.int .i64 z,.int .i64 t'.at_]):=by rw [hW8];exact HX7.out.set 1 (.int .i64 z)
  have HR8:=h_ (HR7.out.mv hm8 (by omega))
  have HM8:Hid (Mv b w W8):=by rw [hW8];exact HM7.out.put 1 gv (by omega) (.int .i64 z)
  have HVN:=h_ hvn.1;have HM6E:=h_ hm6;have c1:=HX7.out.c 1 rfl;have f1:=HX7.out.fr 1;have HC8:=h_ (sneed_any W8 b K V' D m6 HP8.out ⟨#[59]⟩ 4 (tells_sg (by decide)) (by decide));clear hm8 hvn hm6 HR7 HM7 HP7;go_upto_region 10 with fail;rw [<-hW8];clear hW8 c1 f1 HX7;go_wp2_with fail;refine HC8.out.mono ?_;rintro e w9 ⟨rfl,hp,hm⟩;have HX9:=h_ (HX8.out.mv hm (by omega));have HR9:=h_ (HR8.out.mv hm (by omega));have HM9:=h_ (HM8.out.trans hm);have HP9:=h_ hp;clear hp hm HC8 HR8 HM8 HX8;have n0:=HX9.out.c 0 rfl;have n1:=HX9.out.c 1 rfl;have n2:=HX9.out.c 2 rfl;have q0:=HR9.out.c 0 rfl;have q1:=HR9.out.c 1 rfl;have q2:=HR9.out.c 2 rfl;have f0:=HR9.out.fr 0;have f1:=HR9.out.fr 1;have f2:=HR9.out.fr 2;go_wp2_with fail;have hres:=HR9.out.all [.string X,.int .i64 z,.int .i64 t'.at_] rfl;have hmf:=sets_put HM9.out hgrw 0 [.string X,.int .i64 z,.int .i64 t'.at_];have hpf:=HP9.out.sets (g:=gr) (by omega) 0 [.string X,.int .i64 z,.int .i64 t'.at_];simp only [sets,Nat.reduceAdd] at hres hmf hpf;refine bodyPost_ret (resVar rfl _ rfl hres) rfl ?_;have hEQ:=var_eq HVV.out.2 HIS.out HM1E.out HM2E.out HM3E.out HVN.out;refine ⟨⟨t'.text,z,t'.at_⟩,by rw [HXX.out],?_,⟨V',?_,λ s' e=>?_⟩,hmf⟩
  ·rw [hEQ];exact go_ok_is _ _
  ·rw [hEQ,go_ok_void,HM6E.out];exact hpf
  ·rw [hEQ,go_ok_void] at e;exact var_many HVV.out.2 HM2E.out HM3E.out HV3.out e
theorem cells3 {l:List Value} (h:l.length=3):∃y0 y1 y2,l=[y0,y1,y2]:=by
 match l,h with
 |[y0,y1,y2],_=>exact ⟨_,_,_,rfl⟩
def vgF (b gc:Nat) (v:Value) (i:Nat) (_vals:Nat->Option Value) (u:Value):Prop:=match i with
 |0=>u=.pointer (some ⟨gc,0,none⟩)
 |1=>u=v
 |2=>u=.pointer (some ⟨b,0,none⟩)
 |3=>∃ys:List Value,u=.agg ys.toArray/\ys.length=3
 |4=>∃gs:Nat,u=.slice (some ⟨gs,0,none⟩) 1 1
 |6=>u=.pointer (some ⟨gc,0,none⟩)
 |_=>True
def VrQ (b:Nat) (K:Kx) (D:Int) (k:Nat) (s:Ss) (W:World):Prop:=∃V',PS W b K V' D (vR k s).void/\∀s',(vR k s).void=.ok () s'->V'=((k+1:Nat):Int)/\k+1<=16
theorem stays_vq (b:Nat) (K:Kx) (D:Int) (k:Nat) (s:Ss):Stays b (VrQ b K D k s):=λ _ _ _ ⟨V',hp,hv⟩ hc hs=>⟨V',hp.ch hc hs,hv⟩
theorem svar_act (w:World) (b:Nat) (K:Kx) (V D:Int) (s:Ss) (gc gp:Nat) (v:Value) (rest:List Value) (l:List SyVar) (F:List Nat) (h:PS w b K V D (.ok () s)) (hV:V=(l.length:Int)/\l.length<=16) (hk:isAt 2 wVar s.ts=true) (hcell:CB w gc 29 (v::rest)) (hgp:CB w gp 134 [.pointer (some ⟨b,0,none⟩)])
  (hrow':DvAt w (dvVars l) v F) (hFn:F.Nodup) (hFb:∀g∈F,b<g) (hbg:b<gc) (hbp:b<gp) (hglF:gc∉F) (hgpF':gp∉F) :
  Calls Tryz.prog 78 #[.pointer (some ⟨gc,0,none⟩),.pointer (some ⟨gp,0,none⟩)] w λ e w'=>e=.returned (.tuple #[])/\∃(x:SyVar) (v':Value) (F':List Nat),CB w' gc 29 (v'::rest)/\(vR l.length s).is x/\DvAt w' (dvVars (l++[x])) v' F'/\F'.Nodup/\(∀g∈F',g∈F∨w.heap.size<=g)/\VrQ b K D l.length s w'/\Ch (λ j=>j=b∨j=gc∨j∈F) w w':=by
 obtain ⟨rfl,hle⟩:=hV;have hs0:=stays_ps b K (l.length:Int) D (.ok () s);have hs:=stays_vq b K D l.length s;have hp0:=h
 obtain ⟨cs,hcs⟩:∃cs,l.flatMap dvVar=cs:=⟨_,rfl⟩
 obtain ⟨n,hnn⟩:∃n,l.length=n:=⟨_,rfl⟩
 have hE:∀x:SyVar,dvVars (l++[x])=.row 74 3 (n+1) (cs++dvVar x):=λ x=>by unfold dvVars;rw [List.flatMap_append,hcs,List.length_append,hnn];simp
 have hrow:DvAt w (.row 74 3 n cs) v F:=by rw [<-hcs,<-hnn];exact hrow'
 have hn:n<=1000000:=by omega
 have hFl:∀g∈F,g<w.heap.size/\b<g:=λ g hg=>⟨hrow.lt g hg,hFb g hg⟩
 have hglw:=hcell.lt
 have hbF:b∉F:=λ hb=>by have:=hFb b hb;omega
 have hgpF:¬(gp=b∨gp∈F):=λ h=>h.elim (λ e=>by omega) hgpF';clear hnn hcs;go_enter Tryz.func78,Tryz.ntmps78;go_upto_region 0 with fail
 refine region_mix _ _ _ (by kernel_rfl) 7 rfl (by kernel_rfl) (by kernel_rfl) (λ i=>match i with|1=>[0]|3=>[2]|4=>[3]|5=>[1,4]|7=>[6,5]|_=>[]) (by kernel_rfl) (by kernel_rfl)
  (λ i=>match i with|3=>some 0|4=>some 1|5=>some 2|7=>some 3|_=>none) (λ _=>false) 3 rfl (by kernel_rfl)
  (vgF b gc v) ?_ (λ p vals W=>BIv w b gc 29 (v::rest) (λ W=>PS W b K (l.length:Int) D (.ok () s)) (VrQ b K D l.length s) 74 3 n cs v F (λ ds=>∃x:SyVar,ds=dvVar x/\(vR l.length s).is x) (λ u ys=>u=.agg ys.toArray) 3 4 5 p vals W)
  (λ _ wr=>BFin w b gc 29 (v::rest) 0 (VrQ b K D l.length s) 74 3 n cs F (λ ds=>∃x:SyVar,ds=dvVar x/\(vR l.length s).is x) wr)
  (λ p vals vals' W hl hI=>hI.loc (hl _ (.inl rfl)) (hl _ (.inl rfl)) (hl _ (.inl rfl))) (BIv.zero hs0 hp0 hrow hcell) ?_ ?_ ?_ ?_ ?_
 ·intro j vals vals' u hext hF;exact hF
 ·intro i o hi hrk hal ho a vals w p hpN hI hbase hdep
  have hi':i=0∨i=1∨i=2∨i=3∨i=4∨i=5∨i=6:=by omega
  rcases hi' with rfl|rfl|rfl|rfl|rfl|rfl|rfl
  ·have hp:a.tmps[0]?.getD undef=Value.pointer (some ⟨gc,0,none⟩):=ev_get2 (hbase 0 (by kernel_rfl));simp only [t_,z_,j_] at ho;subst ho;unfold Oper.wp;go_simp;exact ⟨_,rfl,rfl,rfl⟩
  ·have h0:a.tmps[2]?.getD undef=Value.pointer (some ⟨gc,0,none⟩):=ev_get2 (show a.eval (.tmp 2)=Value.pointer (some ⟨gc,0,none⟩) from (hdep 0 (by simp)).1);have y0:=hI.cell.c 0 rfl;simp only [t_,s_,z_,j_] at ho;subst ho;unfold Oper.wp;go_simp;exact ⟨_,rfl,rfl,rfl⟩
  ·have hp:a.tmps[1]?.getD undef=Value.pointer (some ⟨gp,0,none⟩):=ev_get2 (hbase 1 (by kernel_rfl));have y0:=(hgp.ch hI.ch hgpF).c 0 rfl;simp only [t_,s_,z_,j_] at ho;subst ho;unfold Oper.wp;go_simp;exact ⟨_,rfl,rfl,rfl⟩
  ·cases hrk
  ·cases hrk
  ·cases hrk
  ·have hp:a.tmps[0]?.getD undef=Value.pointer (some ⟨gc,0,none⟩):=ev_get2 (hbase 0 (by kernel_rfl));simp only [t_,s_,z_,j_] at ho;subst ho;unfold Oper.wp;go_simp;exact ⟨_,rfl,rfl,rfl⟩
 ·intro i o hi hrk hal;cases hal
 ·intro i o r' hi hrk ho a vals w2 hI hbase hdep hv hcl
  have hi':i=0∨i=1∨i=2∨i=3∨i=4∨i=5∨i=6:=by omega
  rcases hi' with rfl|rfl|rfl|rfl|rfl|rfl|rfl
  ·cases hrk
  ·cases hrk
  ·cases hrk
  ·obtain rfl:r'=0:=by injection hrk with hrk;exact hrk.symm
   have h2:a.tmps[4]?.getD undef=Value.pointer (some ⟨b,0,none⟩):=ev_get2 (show a.eval (.tmp 4)=Value.pointer (some ⟨b,0,none⟩) from (hdep 2 (by simp)).1);have HC:=svar_any w2 b K _ D s l.length (hI.p0 rfl) ⟨rfl,hle⟩ hk;simp only [t_,s_,z_,j_] at ho;subst ho;unfold Oper.wp;go_simp;refine HC.mono ?_;rintro e w' ⟨x,rfl,his,hp,hm⟩;have hrp:Rep w' w2.heap.size (dvVar x) [txV x.name,.int .i64 x.num,.int .i64 x.at_]:=Rep.v rfl (Rep.v rfl (Rep.v rfl (Rep.nil w' _)));exact ⟨_,rfl,⟨[txV x.name,.int .i64 x.num,.int .i64 x.at_],rfl,rfl⟩,hI.call (u:=.agg #[txV x.name,.int .i64 x.num,.int .i64 x.at_]) (ys:=[txV x.name,.int .i64 x.num,.int .i64 x.at_]) rfl ⟨x,rfl,his⟩ hrp rfl hp hm (by omega) hbF⟩
  ·obtain rfl:r'=1:=by injection hrk with hrk;exact hrk.symm
   obtain ⟨u,ys,c1,rfl,hl,hIb⟩:=hI.build hs (by decide);have h3:=(hdep 3 (by simp)).2;rw [c1] at h3;replace h3:a.tmps[5]?.getD undef=_:=ev_get2 (Option.some.inj h3).symm;obtain ⟨y0,y1,y2,rfl⟩:=cells3 hl;simp only [t_,s_,z_,j_] at ho;subst ho;unfold Oper.wp;go_simp;exact ⟨_,rfl,⟨_,rfl⟩,hIb⟩
  ·obtain rfl:r'=2:=by injection hrk with hrk;exact hrk.symm
   have h1:a.eval (.tmp 3)=v:=(hdep 1 (by simp)).1;obtain ⟨gs,h4⟩:=(hdep 4 (by simp)).1
   have hv3:vals 4=some (.slice (some ⟨gs,0,none⟩) 1 1):=by rw [(hdep 4 (by simp)).2];exact congrArg some h4
   replace h4:a.eval (.tmp 6)=_:=h4;obtain ⟨v',w',hr,hI'⟩:=hI.app Tryz.prog 22 22 _ _ infoVar Tryz.underlying22 rfl (by decide) (by decide) hv3 hn hFn hFl hglF hs;simp only [t_,s_,z_,j_] at ho;subst ho;unfold Oper.wp;simp only [execOp,resolve,invoke,builtin,Sem.run_bind,Sem.run_pure,Result.andThen_ok,List.map_toArray,List.map_cons,List.map_nil,h1,h4,hr];exact ⟨_,rfl,trivial,hI'⟩
  ·cases hrk
 ·intro o ho a vals w2 hI hbase hdep hall hF;have h6:a.tmps[8]?.getD undef=Value.pointer (some ⟨gc,0,none⟩):=ev_get2 (show a.eval (.tmp 8)=Value.pointer (some ⟨gc,0,none⟩) from (hdep 6 (by simp)).1);obtain ⟨v',hva⟩:=x_ (Option.isSome_iff_ne_none.2 (hall 5 (by omega)));have hv4:=(hdep 5 (by simp)).2;rw [hva] at hv4;have h5:a.tmps[7]?.getD undef=v':=ev_get2 (show a.eval (.tmp 7)=v' from (Option.some.inj hv4).symm);have y0:=hI.cell.c 0 rfl;have f0:=hI.cell.fr 0;obtain ⟨_,_,_,c1,_,c3,_,_,_⟩:=hI.p3 (n_ _);rw [hva] at c1;obtain rfl:=Option.some.inj c1;obtain ⟨A',c',hsl,_,_⟩:=c3.slice;subst hsl;have hfin:=hI.fin hs hva 0 hbg hglF hglw;simp only [t_,s_,z_,j_] at ho;subst ho;unfold Oper.wp;go_simp;exact ⟨.tuple #[],rfl,λ _ _=>hfin⟩
 ·intro vals W hF hall;obtain ⟨v0,h0⟩:=x_ (hall 0 (by omega));obtain ⟨v1,h1⟩:=x_ (hall 1 (by omega));obtain ⟨v2,h2⟩:=x_ (hall 2 (by omega));obtain ⟨v3,h3⟩:=x_ (hall 3 (by omega));obtain ⟨v4,h4⟩:=x_ (hall 4 (by omega));obtain ⟨v5,h5⟩:=x_ (hall 5 (by omega));obtain ⟨v6,h6⟩:=x_ (hall 6 (by omega));obtain ⟨v7,h7⟩:=x_ (hall 7 (by omega));simp only [puts,put1,show List.range (7+1)=[0,1,2,3,4,5,6,7] from rfl,List.foldl_cons,List.foldl_nil,h0,h1,h2,h3,h4,h5,h6,h7,t_,s_,z_,Act.put,u_,v_,k_];clear h0 h1 h2 h3 h4 h5 h6 h7 hall;go_wp2_with fail;go_end0;obtain ⟨_,v',F',a1,⟨x,rfl,a2⟩,a3,a4,a5,a6,a7⟩:=hF;exact ⟨rfl,x,v',F',a1,a2,by rw [hE];exact a3,a4,a5,a6,a7⟩
structure B3 (w:World) (b:Nat) (K:Kx) (D:Int) (gc gp gu:Nat) (rest:List Value) (l:List SyVar) (m:Rs Unit) (W:World):Prop where
 ps:∃V,PS W b K V D m/\∀s,m=.ok () s->V=(l.length:Int)/\l.length<=16
 row:∃v F,CB W gc 29 (v::rest)/\DvAt W (dvVars l) v F/\F.Nodup/\∀g∈F,gu<g
 tx:CB W gu 9 ([wVar].map txV)
 gp:CB W gp 134 [.pointer (some ⟨b,0,none⟩)]
 ch:Ch (λ j=>j=b∨j=gc∨gu<j) w W
theorem B3.below {w:World} {b:Nat} {K:Kx} {D:Int} {gc gp gu:Nat} {rest:List Value} {l:List SyVar} {m:Rs Unit} {W W':World} (h:B3 w b K D gc gp gu rest l m W) (hb:Below W.heap.size W W'):B3 w b K D gc gp gu rest l m W':=by
 obtain ⟨v,F,h1,h2,h3,h4⟩:=h.row;obtain ⟨V,h5,h6⟩:=h.ps;exact ⟨⟨V,h5.below hb,h6⟩,⟨v,F,h1.below hb,h2.below hb,h3,h4⟩,h.tx.below hb,h.gp.below hb,h.ch.trans (Ch.of_below hb)⟩
theorem var_tells {s:Ss} {t:Tk} {r:List Tk} (hs:s.ts=t::r) (ht:LexT t):bgn [wVar] s=isAt 2 wVar s.ts:=by
 have h1:isAt 2 wVar s.ts=decide (t.text=wVar):=by rw [hs];exact tells_kw (by decide) t ht
 rw [h1];unfold bgn textAt;rw [hs];show [wVar].contains t.text=_
 by_cases c:t.text=wVar
 ·rw [c];decide
 ·simp [c]
theorem vars_any (w:World) (b:Nat) (K:Kx) (D:Int) (m:Rs Unit) (gc gp gu:Nat) (rest:List Value) (W:World) (h:B3 w b K D gc gp gu rest [] m W) (hbc:b<gc) (hbp:b<gp) (hcp:gc≠gp) (hcu:gc<gu) (hpu:gp<gu) :
  Calls Tryz.prog 77 #[.pointer (some ⟨b,0,none⟩),.func (.func 78) #[] #[.pointer (some ⟨gc,0,none⟩),.pointer (some ⟨gp,0,none⟩)],.slice (some ⟨gu,0,none⟩) [wVar].length [wVar].length] W λ e w'=>e=.returned (.tuple #[])/\∃y,(m.go (It varS [])).is y/\B3 w b K D gc gp gu rest y (m.go (It varS [])).void w':=by
 refine each_it b K D gu [wVar] _ _ (λ _ _=>by kernel_rfl) varS varS_goes (B3 w b K D gc gp gu rest) (λ x m w hi=>by obtain ⟨V,h,_⟩:=hi.ps;exact ⟨V,h⟩) (λ x m w hi=>hi.tx) (λ x m w w' hi hb=>hi.below hb) ?_ ?_ ?_ [] m W h (by decide)
 ·intro x s t l hs hl hbg;rw [var_tells hs hl] at hbg;unfold varS;rw [if_neg (by rw [hbg];decide)]
 ·intro x s y s' t l hs hl hbg e;rw [var_tells hs hl] at hbg;rw [var_step hbg] at e;obtain ⟨_,_,_,e2⟩:=Rs.some e;exact absurd (congrArg Prod.snd (Rs.ok.inj e2).1) (by simp)
 ·intro x s W hi hbg;obtain ⟨V,hp,hV⟩:=hi.ps;obtain ⟨t,l,hs,hl,_⟩:=hp.head rfl;rw [var_tells hs hl] at hbg;obtain ⟨v,F,h1,h2,h3,h4⟩:=hi.row;have huW:=hi.tx.lt;have hbW:=hp.blt;refine (svar_act W b K V D s gc gp v rest x F hp (hV s rfl) hbg h1 hi.gp h2 h3 (λ g hg=>by have:=h4 g hg;omega) hbc hbp (λ hg=>by have:=h4 gc hg;omega) (λ hg=>by have:=h4 gp hg;omega)).mono ?_;rintro e w' ⟨rfl,y,v',F',c1,c2,c3,c4,c5,⟨V',c6,c6'⟩,c7⟩;have hq:=var_step (l:=x) hbg;have hF':∀g∈F',gu<g:=λ g hg=>(c5 g hg).elim (h4 g) (λ h=>by omega);refine ⟨rfl,x++[y],λ z bb s' e=>?_,⟨⟨V',?_,λ s' e=>?_⟩,⟨v',F',c1,c3,c4,hF'⟩,hi.tx.ch c7 ?_,hi.gp.ch c7 ?_,hi.ch.trans (c7.mono (λ j _ hj=>hj.elim .inl (λ hj=>.inr (hj.elim .inl (λ hj=>.inr (h4 j hj))))))⟩⟩
  ·rw [hq] at e;obtain ⟨z',s1,e1,e2⟩:=Rs.some e;have:=c2 z' s1 e1;rw [this] at e2;exact (congrArg Prod.fst (Rs.ok.inj e2).1).symm
  ·rw [hq,bind_void];exact c6
  ·rw [hq,bind_void] at e;have:=c6' s' e;rw [List.length_append,List.length_singleton];exact this
  ·rintro (e|e|e)
   ·omega
   ·omega
   ·have:=h4 _ e;omega
  ·rintro (e|e|e)
   ·omega
   ·omega
   ·have:=h4 _ e;omega
def chR (s:Ss):Rs (List SyVar×(SyB×List SyNode)):=(It varS [] s).bind λ l s4=>(bodyR (nodeR 11) s4).bind λ z s5=>.ok (l,z) s5
theorem chR_eq {m m1:Rs Unit} {l:List SyVar} {z:SyB×List SyNode} (h1:(m.go (It varS [])).is l) (e1:(m.go (It varS [])).void=m1) (h2:(m1.go (bodyR (nodeR 11))).is z):m.go chR=(m1.go (bodyR (nodeR 11))).void.go λ s=>.ok (l,z) s:=by
 have e2:(m1.go λ s=>(bodyR (nodeR 11) s).bind λ z s5=>(.ok (l,z) s5:Rs (List SyVar×(SyB×List SyNode))))=(m1.go (bodyR (nodeR 11))).bind λ z s5=>.ok (l,z) s5:=go_bind _ _ _;unfold chR;rw [go_bind,Rs.seq h1,e1,e2,Rs.seq h2]
theorem Rep.mid {w:World} {base:Nat} {d:DV} {x:Value} {ds ds':List DV} {xs xs':List Value} (h:Rep w base (d::ds) (x::xs)) (f:∀F,DvsAt w ds xs F->DvsAt w ds' xs' F):Rep w base (d::ds') (x::xs'):=by
 obtain ⟨F,h1,h2,h3⟩:=h;unfold DvsAt at h1;obtain ⟨y,ys,F1,F2,e1,rfl,h4,h5⟩:=h1;injection e1 with e1 e2;subst e1 e2;exact ⟨F1++F2,DvsAt.cons h4 (f _ h5),h2,h3⟩
theorem rep_five {w:World} {base B:Nat} {d d1 d2 d3 d4:DV} {v v1 v2 v3 v4:Value} {F F1 F2 F3 F4:List Nat} (h:DvAt w d v F) (hn:F.Nodup) (hl:∀g∈F,base<=g/\g<B) (hb:base<=B) (h4:Q4 w B d1 d2 d3 d4 v1 v2 v3 v4 F1 F2 F3 F4):Rep w base [d,d1,d2,d3,d4] [v,v1,v2,v3,v4]:=by
 obtain ⟨G,k1,k2,k3⟩:=h4.rep;refine ⟨F++G,DvsAt.cons h k1,List.nodup_append.2 ⟨hn,k2,λ a ha a' ha' e=>?_⟩,λ g hg=>?_⟩
 ·subst e;have:=(hl a ha).2;have:=k3 a ha';omega
 ·rcases List.mem_append.1 hg with hg|hg
  ·exact (hl g hg).1
  ·exact Nat.le_trans hb (k3 g hg)
def CkEnd (w:World) (b:Nat) (K:Kx) (m:Rs Unit) (gc:Nat) (kc nmv dfv pv:Value) (e:Ending) (w':World):Prop :=
 e=.returned (.tuple #[])/\∃(l:List SyVar) (z:SyB×List SyNode),(m.go chR).is (l,z)/\(∃V,PS w' b K V 0 (m.go chR).void) /\
  (∃(A0 A1 A2 A3 A4:Option Addr) (n0 n1 n2 n3 n4 k0 k1 k2 k3 k4:Nat),CB w' gc 29 (.slice A0 n0 k0::ndC kc nmv (txV z.1.initial) dfv (.slice A1 n1 k1) (.slice A2 n2 k2) (.slice A3 n3 k3) (.slice A4 n4 k4) pv) /\
   Rep w' w.heap.size [dvVars l,dvActs true z.1.enter,dvActs true z.1.leave,dvMoves true z.1.moves,dvKids true z.2] [.slice A0 n0 k0,.slice A1 n1 k1,.slice A2 n2 k2,.slice A3 n3 k3,.slice A4 n4 k4])/\Ch (λ k=>k=b∨k=gc) w w'
theorem schart1_any (w:World) (b:Nat) (K:Kx) (V:Int) (m:Rs Unit) (gp gc:Nat) (kc nmv dfv pv:Value) (h:PS w b K V 0 m) (hV:∀s,m=.ok () s->V=0) (hgp:CB w gp 134 [.pointer (some ⟨b,0,none⟩)])
  (hcell:CB w gc 29 (.slice none 0 0::ndC kc nmv (.string ⟨#[]⟩) dfv (.slice none 0 0) (.slice none 0 0) (.slice none 0 0) (.slice none 0 0) pv)) (hbp:b<gp) (hbc:b<gc) (hcp:gc≠gp) :
  Calls Tryz.prog 76 #[.pointer (some ⟨gp,0,none⟩),.pointer (some ⟨gc,0,none⟩)] w (CkEnd w b K m gc kc nmv dfv pv):=by
 obtain ⟨gu,hgu⟩:∃g,g=w.heap.size:=⟨_,rfl⟩
 obtain ⟨W0,hW0⟩:∃W0,W0=w.alloc (.cells #[.string ⟨#[118,97,114]⟩] 9):=⟨_,rfl⟩
 have hb0:Below w.heap.size w W0:=by rw [hW0];exact (b_ _ w).alloc (n_ _) _
 have hcw:=hcell.lt;have hpw:=hgp.lt
 have HB3:Hid (B3 w b K 0 gc gp gu (ndC kc nmv (.string ⟨#[]⟩) dfv (.slice none 0 0) (.slice none 0 0) (.slice none 0 0) (.slice none 0 0) pv) [] m W0):=by
  refine ⟨⟨V,h.below hb0,λ s e=>⟨hV s e,Nat.zero_le _⟩⟩,⟨.slice none 0 0,[],hcell.below hb0,?_,List.nodup_nil,λ g hg=>(by cases hg)⟩,?_,hgp.below hb0,Ch.of_below hb0⟩
  ·unfold dvVars DvAt;exact ⟨[],[],World.ownsRow_nil _ 0 _ _,rfl,DvsAt.nil _⟩
  ·rw [hW0,hgu];exact CB.new w 9 ([wVar].map txV)
 have HC1:=h_ (vars_any w b K 0 m gc gp gu _ W0 HB3.out hbc hbp hcp (by omega) (by omega));have yp:=hgp.c 0 rfl
 have hgu':w.heap.size<=gu:=by omega
 clear h hV hgp hcell hb0;go_enter Tryz.func76,Tryz.ntmps76;go_wp2_with fail;rw [<-hW0,<-hgu];clear hW0 hgu;refine HC1.out.mono ?_;rintro e w2 ⟨rfl,l,hl,hb3⟩
 obtain ⟨m1,hm1⟩:∃m1,(m.go (It varS [])).void=m1:=⟨_,rfl⟩
 rw [hm1] at hb3;obtain ⟨V1,hp1,_⟩:=hb3.ps;obtain ⟨v,F,c1,c2,c3,c4⟩:=hb3.row;have yp2:=hb3.gp.c 0 rfl;have HL:=h_ hl;have HM1E:=h_ hm1;have HCH:=h_ hb3.ch;have HV:=h_ (And.intro c2 (And.intro c3 c4));have huw:=hb3.tx.lt;have HC2:=h_ (sbody_any w2 b K V1 0 11 m1 gc 1 29 [v] kc nmv dfv pv hp1 (by omega) (λ _=>snode_any b K 11 (0+1) (by decide) (by decide)) c1 rfl hbc);clear hl hb3 hm1 hp1 c1 c2 c3 c4 HC1 yp HB3;go_wp2_with fail;refine HC2.out.mono ?_;rintro e w3 ⟨rfl,z,hz,hp,⟨v1,v2,v3,v4,F1,F2,F3,F4,d1,d2⟩,d3⟩;have HZ:=h_ hz;have HP3:=h_ hp;have HD1:=h_ d1;have HD2:=h_ d2;have HD3:=h_ d3;clear hz hp d1 d2 d3 HC2 yp2;go_wp2_with fail;go_end0;obtain ⟨c2,c3,c4⟩:=HV.out;have hR:=chR_eq HL.out HM1E.out HZ.out;have hv:=c2.ch HD3.out (λ g hg e=>by have:=c4 g hg;rcases e with e|e <;> omega);have hd1:=HD1.out;obtain ⟨A0,k0,rfl,_⟩:=hv.slice;obtain ⟨A1,k1,rfl,_⟩:=HD2.out.a1.slice;obtain ⟨A2,k2,rfl,_⟩:=HD2.out.a2.slice;obtain ⟨A3,k3,rfl,_⟩:=HD2.out.a3.slice;obtain ⟨A4,k4,rfl,_⟩:=HD2.out.a4.slice;refine ⟨rfl,l,z,?_,⟨V1,?_⟩,⟨A0,A1,A2,A3,A4,_,_,_,_,_,k0,k1,k2,k3,k4,hd1,?_⟩,?_⟩
 ·rw [hR];exact go_ok_is _ _
 ·rw [hR,go_ok_void];exact HP3.out
 ·exact rep_five hv c3 (λ g hg=>⟨by have:=c4 g hg;omega,c2.lt g hg⟩) (by omega) HD2.out
 ·exact (HCH.out.mono (S':=λ k=>k=b∨k=gc) (λ k hk e=>by rcases e with e|e|e <;> omega)).trans HD3.out
theorem go_unit {α:Type} (m:Rs Unit) (f:Ss->Rs Unit) (g:Ss->Rs α):(m.go λ s=>(f s).bind λ _ s1=>g s1)=(m.go f).go g:=by
 cases m with
 |out=>rfl
 |bad c p=>rfl
 |ok u s=>exact unit_bind _ _
theorem chart_eq {m m1 m2 m3 m4 m5:Rs Unit} {x:List UInt8} {p:Int} {l:List SyVar} {z:SyB×List SyNode} (h1:m.go (mustR 2 wChart)=m1) (his:(m1.go (namedR 12)).is (x,p)) (h2:(m1.go (namedR 12)).void=m2) (h3:m2.go (mustR 4 [123])=m3) (hi4:(m3.go chR).is (l,z)) (h4:(m3.go chR).void=m4) (h5:m4.go (mustR 4 [125])=m5) :
  m.go chartR=m5.go (endR ⟨l,nodeOf 1 (x,p) z⟩):=by
 have e3:(m3.go λ s3=>(It varS [] s3).bind λ l s4=>(bodyR (nodeR 11) s4).bind λ z s5=>(mustR 4 [125] s5).bind λ _ s6=>endR ⟨l,nodeOf 1 (x,p) z⟩ s6)=(m3.go chR).bind λ y s5=>(mustR 4 [125] s5).bind λ _ s6=>endR ⟨y.1,nodeOf 1 (x,p) y.2⟩ s6:=by
  rw [<-go_bind]
  congr 1
  funext s3
  unfold chR;simp only [Rs.assoc];rfl
 unfold chartR;rw [go_unit,h1,go_bind,Rs.seq his,h2,go_unit,h3,e3,Rs.seq hi4,h4,go_unit,h5]
theorem end_ok {m:Rs Unit} {K:Kx} {t:Tk} (h:TokAt K m t) (hk:t.kind=5) (c:SyChart):m.go (endR c)=m.go λ s=>.ok c s:=by
 cases m with
 |out=>rfl
 |bad c p=>rfl
 |ok u s =>
  obtain ⟨r,hr⟩:=h.2 s (by cases u;rfl);show endR c s=.ok c s;unfold endR;rw [hr];exact if_pos hk
theorem end_no {m:Rs Unit} {K:Kx} {t:Tk} (h:TokAt K m t) (hk:t.kind≠5) (c:SyChart):m.go (endR c)=m.go λ s=>wrongR s.ts:=by
 cases m with
 |out=>rfl
 |bad c p=>rfl
 |ok u s =>
  obtain ⟨r,hr⟩:=h.2 s (by cases u;rfl);show endR c s=wrongR s.ts;unfold endR;rw [hr];exact if_neg hk
theorem wrong_govoid {α:Type} (m:Rs Unit):(m.go λ s=>(wrongR s.ts:Rs α)).void=m.go λ s=>wrongR s.ts:=by
 cases m with
 |out=>rfl
 |bad c p=>rfl
 |ok u s =>
  show (wrongR s.ts:Rs α).void=wrongR s.ts
  cases s.ts with
  |nil=>rfl
  |cons t r=>rw [wrongR_cons,wrongR_cons];split <;> rfl
theorem rep_chart {W:World} {base:Nat} {x:List UInt8} {p:Int} {l:List SyVar} {z:SyB×List SyNode} {v v1 v2 v3 v4:Value} (h:Rep W base [dvVars l,dvActs true z.1.enter,dvActs true z.1.leave,dvMoves true z.1.moves,dvKids true z.2] [v,v1,v2,v3,v4]) {X Y:ByteArray} (hX:txV x=.string X) (hY:txV z.1.initial=.string Y) :
  Rep W base (dvChart true ⟨l,nodeOf 1 (x,p) z⟩) [v,.int .i64 1,.string X,.string Y,.string ⟨#[]⟩,v1,v2,v3,v4,.int .i64 p]:=by
 unfold dvChart nodeOf;rw [dvNode_mk];refine h.mid λ F hF=>?_;rw [<-hX,<-hY];have:=hF.app (DvsAt.v (w:=W) (u:=.int .i64 p) rfl (DvsAt.nil W));rw [List.append_nil] at this;exact DvsAt.v rfl (DvsAt.v rfl (DvsAt.v rfl (DvsAt.v rfl this)))
def ChEnd (w:World) (b:Nat) (K:Kx) (m:Rs SyChart) (e:Ending) (w':World):Prop :=
 ∃(c:SyChart) (ys:List Value),e=.returned (.agg ys.toArray)/\Rep w' w.heap.size (dvChart true c) ys/\ys.length=10/\m.is c/\(∃V,PS w' b K V 0 m.void)/\Mv b w w'
theorem schart_any (w:World) (b:Nat) (K:Kx) (m:Rs Unit) (h:PS w b K 0 0 m) :
  Calls Tryz.prog 48 #[.pointer (some ⟨b,0,none⟩)] w (ChEnd w b K (m.go chartR)):=by
 obtain ⟨gp,hgp⟩:∃g,g=w.heap.size:=⟨_,rfl⟩
 obtain ⟨gr,hgr⟩:∃g,g=w.heap.size+1:=⟨_,rfl⟩
 obtain ⟨gc,hgc⟩:∃g,g=w.heap.size+1+1:=⟨_,rfl⟩
 obtain ⟨Wa,hWa⟩:∃W,W=w.alloc (.cells #[.pointer (some ⟨b,0,none⟩)] 134):=⟨_,rfl⟩
 obtain ⟨Wb,hWb⟩:∃W,W=Wa.alloc (.cells #[.slice none 0 0,.int .i64 0,.string ⟨#[]⟩,.string ⟨#[]⟩,.string ⟨#[]⟩,.slice none 0 0,.slice none 0 0,.slice none 0 0,.slice none 0 0,.int .i64 0] 29):=⟨_,rfl⟩
 obtain ⟨W0,hW0⟩:∃W,W=Wb.alloc (.cells #[.slice none 0 0,.int .i64 0,.string ⟨#[]⟩,.string ⟨#[]⟩,.string ⟨#[]⟩,.slice none 0 0,.slice none 0 0,.slice none 0 0,.slice none 0 0,.int .i64 0] 29):=⟨_,rfl⟩
 have hsa:Wa.heap.size=w.heap.size+1:=by rw [hWa];simp
 have hsb:Wb.heap.size=w.heap.size+1+1:=by rw [hWb];simp [hsa]
 have HGP:Hid (CB W0 gp 134 [.pointer (some ⟨b,0,none⟩)]):=by rw [hW0,hWb,hWa,hgp];exact ((CB.new w _ [.pointer (some ⟨b,0,none⟩)]).alloc _).alloc _
 have HR:Hid (CB W0 gr 29 [.slice none 0 0,.int .i64 0,.string ⟨#[]⟩,.string ⟨#[]⟩,.string ⟨#[]⟩,.slice none 0 0,.slice none 0 0,.slice none 0 0,.slice none 0 0,.int .i64 0]):=by
  have:=CB.new Wa 29 [.slice none 0 0,.int .i64 0,.string ⟨#[]⟩,.string ⟨#[]⟩,.string ⟨#[]⟩,.slice none 0 0,.slice none 0 0,.slice none 0 0,.slice none 0 0,.int .i64 0];rw [hsa,<-hgr] at this;rw [hW0,hWb];exact this.alloc _
 have HC:Hid (CB W0 gc 29 [.slice none 0 0,.int .i64 0,.string ⟨#[]⟩,.string ⟨#[]⟩,.string ⟨#[]⟩,.slice none 0 0,.slice none 0 0,.slice none 0 0,.slice none 0 0,.int .i64 0]):=by
  have:=CB.new Wb 29 [.slice none 0 0,.int .i64 0,.string ⟨#[]⟩,.string ⟨#[]⟩,.string ⟨#[]⟩,.slice none 0 0,.slice none 0 0,.slice none 0 0,.slice none 0 0,.int .i64 0];rw [hsb,<-hgc] at this;rw [hW0];exact this
 have HB0:Hid (Below w.heap.size w W0):=by rw [hW0,hWb,hWa];exact (((b_ _ w).alloc (n_ _) _).alloc (by simp) _).alloc (by simp;omega) _
 have hbw:=h.blt
 have hord:w.heap.size<=gp/\gp<gr/\gr<gc:=by omega
 have yp:=HGP.out.c 0 rfl;have HC0:=h_ (sneed_any W0 b K 0 0 m (h.below HB0.out) ⟨#[99,104,97,114,116]⟩ 2 (tells_kw (by decide)) (by decide));clear h hsa hsb;go_enter Tryz.func48,Tryz.ntmps48;go_upto_region 2 with fail;rw [<-hWa,<-hWb,<-hW0,<-hgc,<-hgr,<-hgp];clear hWa hWb hW0 hgc hgr hgp;go_wp2_with fail;refine HC0.out.mono ?_;rintro e w1 ⟨rfl,hp,hm⟩
 obtain ⟨m1,hm1⟩:∃m1,m.go (mustR 2 wChart)=m1:=⟨_,rfl⟩
 replace hp:PS w1 b K 0 0 m1:=by rw [<-hm1];exact hp
 have HM1E:=h_ hm1;have HGP1:=h_ (HGP.out.mv hm (by omega));have HR1:=h_ (HR.out.mv hm (by omega));have HC1:=h_ (HC.out.mv hm (by omega));have HM1:=h_ ((Mv.of b HB0.out).trans hm);have HCN:=h_ (snamed_any w1 b K 0 0 m1 hp 1 12 (by decide) (by decide));have yp1:=HGP1.out.c 0 rfl;clear hp hm hm1 HC0 HGP HR HC yp HB0;go_wp2_with fail;refine HCN.out.mono ?_;rintro e w2 ⟨x,p,rfl,his,hp,hm⟩;obtain ⟨X,hX⟩:=str_of x;have HX:=h_ hX;unfold nNode;rw [hX];have HIS:=h_ his
 obtain ⟨m2,hm2⟩:∃m2,(m1.go (namedR 12)).void=m2:=⟨_,rfl⟩
 rw [hm2] at hp;have HM2E:=h_ hm2;have HC2:=h_ (HC1.out.mv hm (by omega))
 obtain ⟨W2,hW2⟩:∃W2,W2=sets w2 gc 1 [.int .i64 1,.string X,.string ⟨#[]⟩,.string ⟨#[]⟩,.slice none 0 0,.slice none 0 0,.slice none 0 0,.slice none 0 0,.int .i64 p]:=⟨_,rfl⟩
 have hm2':Mv gc w2 W2:=by rw [hW2];exact sets_mv _ _ _ _
 have HP2:Hid (PS W2 b K 0 0 m2):=hp.ch (Ch.of_mv hm2') (λ k e=>by have e':k=gc:=e;omega)
 have HN2:Hid (CB W2 gc 29 (.slice none 0 0::ndC (.int .i64 1) (.string X) (.string ⟨#[]⟩) (.string ⟨#[]⟩) (.slice none 0 0) (.slice none 0 0) (.slice none 0 0) (.slice none 0 0) (.int .i64 p))):=by
  rw [hW2];exact CB.many _ 1 HC2.out (by simp)
 have HGP2:=h_ ((HGP1.out.mv hm (by omega)).mv hm2' (by omega));have HR2:=h_ ((HR1.out.mv hm (by omega)).mv hm2' (by omega))
 have HM2:Hid (Mv b w W2):=by rw [hW2];exact sets_put (HM1.out.trans hm) (by omega) _ _
 have e1:=HC2.out.c 1 rfl;have e2:=HC2.out.c 2 rfl;have e3:=HC2.out.c 3 rfl;have e4:=HC2.out.c 4 rfl;have e5:=HC2.out.c 5 rfl;have e6:=HC2.out.c 6 rfl;have e7:=HC2.out.c 7 rfl;have e8:=HC2.out.c 8 rfl;have e9:=HC2.out.c 9 rfl;have f1:=HC2.out.fr 1;have f2:=HC2.out.fr 2;have f3:=HC2.out.fr 3;have f4:=HC2.out.fr 4;have f5:=HC2.out.fr 5;have f6:=HC2.out.fr 6;have f7:=HC2.out.fr 7;have f8:=HC2.out.fr 8;have f9:=HC2.out.fr 9
 obtain ⟨m3,hm3⟩:∃m3,m2.go (mustR 4 [123])=m3:=⟨_,rfl⟩
 have HM3E:=h_ hm3
 obtain ⟨m4,hm4⟩:∃m4,(m3.go chR).void=m4:=⟨_,rfl⟩
 have HM4E:=h_ hm4
 obtain ⟨m5,hm5⟩:∃m5,m4.go (mustR 4 [125])=m5:=⟨_,rfl⟩
 have HM5E:=h_ hm5
 have HC3:Hid (Calls Tryz.prog 75 #[.pointer (some ⟨b,0,none⟩),.func (.func 76) #[] #[.pointer (some ⟨gp,0,none⟩),.pointer (some ⟨gc,0,none⟩)]] W2 λ e w'=>e=.returned (.tuple #[])/\∃(l:List SyVar) (z:SyB×List SyNode),(m3.go chR).is (l,z)/\(∃V,PS w' b K V 0 m5) /\
   (∃(A0 A1 A2 A3 A4:Option Addr) (n0 n1 n2 n3 n4 k0 k1 k2 k3 k4:Nat),CB w' gc 29 (.slice A0 n0 k0::ndC (.int .i64 1) (.string X) (txV z.1.initial) (.string ⟨#[]⟩) (.slice A1 n1 k1) (.slice A2 n2 k2) (.slice A3 n3 k3) (.slice A4 n4 k4) (.int .i64 p)) /\
    Rep w' W2.heap.size [dvVars l,dvActs true z.1.enter,dvActs true z.1.leave,dvMoves true z.1.moves,dvKids true z.2] [.slice A0 n0 k0,.slice A1 n1 k1,.slice A2 n2 k2,.slice A3 n3 k3,.slice A4 n4 k4])/\Ch (λ k=>k=b∨k=gc) W2 w'):=by
  refine senclosed_any W2 b _ _ (λ _ _=>by kernel_rfl) (λ W=>PS W b K 0 0 m3/\Mv b W2 W) (λ W=>∃(l:List SyVar) (z:SyB×List SyNode),(m3.go chR).is (l,z)/\(∃V,PS W b K V 0 m4) /\
   (∃(A0 A1 A2 A3 A4:Option Addr) (n0 n1 n2 n3 n4 k0 k1 k2 k3 k4:Nat),CB W gc 29 (.slice A0 n0 k0::ndC (.int .i64 1) (.string X) (txV z.1.initial) (.string ⟨#[]⟩) (.slice A1 n1 k1) (.slice A2 n2 k2) (.slice A3 n3 k3) (.slice A4 n4 k4) (.int .i64 p)) /\
    Rep W W2.heap.size [dvVars l,dvActs true z.1.enter,dvActs true z.1.leave,dvMoves true z.1.moves,dvKids true z.2] [.slice A0 n0 k0,.slice A1 n1 k1,.slice A2 n2 k2,.slice A3 n3 k3,.slice A4 n4 k4])/\Ch (λ k=>k=b∨k=gc) W2 W) _ ?_ ?_ ?_
  ·have:=sneed_any W2 b K 0 0 m2 HP2.out ⟨#[123]⟩ 4 (tells_sg (by decide)) (by decide);rw [<-HM3E.out];exact this
  ·rintro W ⟨hp,hm⟩;have hs:=World.grownBy.size hm;refine (schart1_any W b K 0 m3 gp gc _ _ _ _ hp (λ _ _=>rfl) (HGP2.out.mv hm (by omega)) (HN2.out.mv hm (by omega)) (by omega) (by omega) (by omega)).mono ?_;rintro e w' ⟨rfl,l,z,c1,⟨V,c2⟩,⟨A0,A1,A2,A3,A4,n0,n1,n2,n3,n4,k0,k1,k2,k3,k4,c3,c4⟩,c5⟩;rw [HM4E.out] at c2;exact ⟨rfl,l,z,c1,⟨V,c2⟩,⟨A0,A1,A2,A3,A4,n0,n1,n2,n3,n4,k0,k1,k2,k3,k4,c3,c4.mono hs⟩,((Ch.of_mv hm).mono (λ _ _ h=>.inl h)).trans c5⟩
  ·rintro W ⟨l,z,c1,⟨V,c2⟩,⟨A0,A1,A2,A3,A4,n0,n1,n2,n3,n4,k0,k1,k2,k3,k4,c3,c4⟩,c5⟩;refine (sneed_any W b K V 0 m4 c2 ⟨#[125]⟩ 4 (tells_sg (by decide)) (by decide)).mono ?_;rintro e w' ⟨rfl,hp,hm⟩
   replace hp:PS w' b K V 0 m5:=by rw [<-HM5E.out];exact hp
   have hbW:=HP2.out.blt;exact ⟨rfl,l,z,c1,⟨V,hp⟩,⟨A0,A1,A2,A3,A4,n0,n1,n2,n3,n4,k0,k1,k2,k3,k4,c3.mv hm (by omega),c4.mv hm hbW⟩,c5.trans ((Ch.of_mv hm).mono (λ _ _ h=>.inl h))⟩
 have yp2:=HGP2.out.c 0 rfl;have HW2:=h_ hW2;clear hp hm hX his hm2 hm3 hm4 hm5 HCN hm2' HR1 HC1 HM1 hW2;go_upto_region 4 with fail;have hW2:=HW2.out;simp only [sets,Nat.reduceAdd] at hW2;rw [<-hW2];clear hW2 HW2 e1 e2 e3 e4 e5 e6 e7 e8 e9 f1 f2 f3 f4 f5 f6 f7 f8 f9 HC2 yp1 HGP1;go_wp2_with fail;refine HC3.out.mono ?_;rintro e w5 ⟨rfl,l,z,c1,⟨V,c2⟩,⟨A0,A1,A2,A3,A4,n0,n1,n2,n3,n4,k0,k1,k2,k3,k4,c3,c4⟩,c5⟩;obtain ⟨Y,hY⟩:=str_of z.1.initial;rw [hY] at c3;have HY:=h_ hY;have HZ:=h_ c1;have HN5:=h_ c3;have HRP:=h_ c4;have HGP5:=h_ (HGP2.out.ch c5 (by omega));have HR5:=h_ (HR2.out.ch c5 (by omega));have HMV5:Hid (Mv b w w5):=((Ch.of_mv HM2.out).trans2 c5 (S1:=λ k=>k=b∨k=gc) (λ j hj hh=>hh.elim id (λ e=>by omega))).mv (λ k _ h=>h);have HP5:=h_ c2;have HCW:=h_ (snow_any w5 b K V 0 m5 c2);have yp5:=HGP5.out.c 0 rfl;have hszW2:w.heap.size<=W2.heap.size:=World.grownBy.size HM2.out;have hgcW2:gc<W2.heap.size:=HN2.out.lt;have HQ:=h_ (λ m=>chart_eq (m:=m) (p:=p) (x:=x) (l:=l) (z:=z) (m1:=m1) (m2:=m2) (m3:=m3) (m4:=m4) (m5:=m5));clear c1 c2 c3 c4 c5 hY HC3 HGP2 HR2 HM2 HN2 HP2 yp2;go_wp2_with fail;refine HCW.out.mono ?_;rintro e w6 ⟨t,rfl,htok,hb6⟩;obtain ⟨tX,htX⟩:=str_of t.text;unfold tkV;rw [htX]
 have hfl:∀w,(Instr.field 131 (.agg #[.int .i64 t.kind,.string tX,.int .i64 t.num,.int .i64 t.at_]) 0).run Tryz.prog w=.ok (.int .i64 t.kind) w:=λ w=>by kernel_rfl
 have HN6:=h_ (HN5.out.below hb6);have HGP6:=h_ (HGP5.out.below hb6);have HR6:=h_ (HR5.out.below hb6);have HMV6:=h_ (HMV5.out.trans (Mv.of b hb6));have HP6:=h_ (HP5.out.below hb6);have HRP6:=h_ (HRP.out.below hb6);have HTOK:=h_ htok;have HEQ:=h_ (HQ.out m HM1E.out HIS.out HM2E.out HM3E.out HZ.out HM4E.out HM5E.out);clear htok hb6 htX HCW HN5 HGP5 HR5 HMV5 HP5 HRP yp5 HQ HM1E HIS HM2E HM3E HZ HM4E HM5E
 obtain ⟨dd,hdd⟩:∃dd,(t.kind != 5)=dd:=⟨_,rfl⟩
 have HDD:=h_ hdd;clear hdd
 cases dd with
 |true =>
  have hk:t.kind≠5:=by have:=HDD.out;simpa using this
  have hne:(t.kind != 5)=true:=HDD.out;have yp6:=HGP6.out.c 0 rfl;have HCU:=h_ (sunfit_any w6 b K V 0 m5 HP6.out);have HKK:=h_ hk;clear hk;go_wp2_with fail;refine HCU.out.mono ?_;rintro e w7 ⟨rfl,hp,hm⟩;have HN7:=h_ (HN6.out.mv hm (by omega));have HR7:=h_ (HR6.out.mv hm (by omega));have HMV7:=h_ (HMV6.out.trans hm);have HRP7:=h_ (HRP6.out.mv hm (by omega));have HP7:=h_ hp;clear hp hm HCU yp6 HN6 HR6 HMV6 HRP6 HP6 hfl hne;have n0x:=HN7.out.c 0 rfl;have n1x:=HN7.out.c 1 rfl;have n2x:=HN7.out.c 2 rfl;have n3x:=HN7.out.c 3 rfl;have n4x:=HN7.out.c 4 rfl;have n5x:=HN7.out.c 5 rfl;have n6x:=HN7.out.c 6 rfl;have n7x:=HN7.out.c 7 rfl;have n8x:=HN7.out.c 8 rfl;have n9x:=HN7.out.c 9 rfl;have q0:=HR7.out.c 0 rfl;have q1:=HR7.out.c 1 rfl;have q2:=HR7.out.c 2 rfl;have q3:=HR7.out.c 3 rfl;have q4:=HR7.out.c 4 rfl;have q5:=HR7.out.c 5 rfl;have q6:=HR7.out.c 6 rfl;have q7:=HR7.out.c 7 rfl;have q8:=HR7.out.c 8 rfl;have q9:=HR7.out.c 9 rfl;have f0:=HR7.out.fr 0;have f1:=HR7.out.fr 1;have f2:=HR7.out.fr 2;have f3:=HR7.out.fr 3;have f4:=HR7.out.fr 4;have f5:=HR7.out.fr 5;have f6:=HR7.out.fr 6;have f7:=HR7.out.fr 7;have f8:=HR7.out.fr 8;have f9:=HR7.out.fr 9;go_wp2_with fail
  have hgrw:w.heap.size<=gr:=by omega
  have hres:=HR7.out.all [.slice A0 n0 k0,.int .i64 1,.string X,.string Y,.string ⟨#[]⟩,.slice A1 n1 k1,.slice A2 n2 k2,.slice A3 n3 k3,.slice A4 n4 k4,.int .i64 p] rfl;have hmf:=sets_put HMV7.out hgrw 0 [.slice A0 n0 k0,.int .i64 1,.string X,.string Y,.string ⟨#[]⟩,.slice A1 n1 k1,.slice A2 n2 k2,.slice A3 n3 k3,.slice A4 n4 k4,.int .i64 p];have hpf:=HP7.out.sets (g:=gr) (by omega) 0 [.slice A0 n0 k0,.int .i64 1,.string X,.string Y,.string ⟨#[]⟩,.slice A1 n1 k1,.slice A2 n2 k2,.slice A3 n3 k3,.slice A4 n4 k4,.int .i64 p];have hrf:=HRP7.out.ch (Ch.many (S:=(·=gr)) (.inl rfl) [.slice A0 n0 k0,.int .i64 1,.string X,.string Y,.string ⟨#[]⟩,.slice A1 n1 k1,.slice A2 n2 k2,.slice A3 n3 k3,.slice A4 n4 k4,.int .i64 p] 0 (Ch.refl _ w7)) (λ g hg _ e=>by have e':g=gr:=e;omega);simp only [sets,Nat.reduceAdd] at hres hmf hpf hrf;refine bodyPost_ret (resChart rfl _ rfl hres) rfl ?_;refine ⟨⟨l,nodeOf 1 (x,p) z⟩,_,rfl,rep_chart (hrf.mono hszW2) HX.out HY.out,rfl,?_,⟨V,?_⟩,hmf⟩
  ·rw [HEQ.out,end_no HTOK.out HKK.out];intro y s e
   cases m5 with
   |out=>cases e
   |bad c p=>cases e
   |ok u s5=>exact absurd e wrong_ne
  ·rw [HEQ.out,end_no HTOK.out HKK.out,wrong_govoid];exact hpf
 |false =>
  have hk:t.kind=5:=by have:=HDD.out;simpa using this
  have hne:(t.kind != 5)=false:=HDD.out;have HKK:=h_ hk;clear hk;have n0x:=HN6.out.c 0 rfl;have n1x:=HN6.out.c 1 rfl;have n2x:=HN6.out.c 2 rfl;have n3x:=HN6.out.c 3 rfl;have n4x:=HN6.out.c 4 rfl;have n5x:=HN6.out.c 5 rfl;have n6x:=HN6.out.c 6 rfl;have n7x:=HN6.out.c 7 rfl;have n8x:=HN6.out.c 8 rfl;have n9x:=HN6.out.c 9 rfl;have q0:=HR6.out.c 0 rfl;have q1:=HR6.out.c 1 rfl;have q2:=HR6.out.c 2 rfl;have q3:=HR6.out.c 3 rfl;have q4:=HR6.out.c 4 rfl;have q5:=HR6.out.c 5 rfl;have q6:=HR6.out.c 6 rfl;have q7:=HR6.out.c 7 rfl;have q8:=HR6.out.c 8 rfl;have q9:=HR6.out.c 9 rfl;have f0:=HR6.out.fr 0;have f1:=HR6.out.fr 1;have f2:=HR6.out.fr 2;have f3:=HR6.out.fr 3;have f4:=HR6.out.fr 4;have f5:=HR6.out.fr 5;have f6:=HR6.out.fr 6;have f7:=HR6.out.fr 7;have f8:=HR6.out.fr 8;have f9:=HR6.out.fr 9;go_wp2_with fail
  have hgrw:w.heap.size<=gr:=by omega
  have hres:=HR6.out.all [.slice A0 n0 k0,.int .i64 1,.string X,.string Y,.string ⟨#[]⟩,.slice A1 n1 k1,.slice A2 n2 k2,.slice A3 n3 k3,.slice A4 n4 k4,.int .i64 p] rfl;have hmf:=sets_put HMV6.out hgrw 0 [.slice A0 n0 k0,.int .i64 1,.string X,.string Y,.string ⟨#[]⟩,.slice A1 n1 k1,.slice A2 n2 k2,.slice A3 n3 k3,.slice A4 n4 k4,.int .i64 p];have hpf:=HP6.out.sets (g:=gr) (by omega) 0 [.slice A0 n0 k0,.int .i64 1,.string X,.string Y,.string ⟨#[]⟩,.slice A1 n1 k1,.slice A2 n2 k2,.slice A3 n3 k3,.slice A4 n4 k4,.int .i64 p];have hrf:=HRP6.out.ch (Ch.many (S:=(·=gr)) (.inl rfl) [.slice A0 n0 k0,.int .i64 1,.string X,.string Y,.string ⟨#[]⟩,.slice A1 n1 k1,.slice A2 n2 k2,.slice A3 n3 k3,.slice A4 n4 k4,.int .i64 p] 0 (Ch.refl _ w6)) (λ g hg _ e=>by have e':g=gr:=e;omega);simp only [sets,Nat.reduceAdd] at hres hmf hpf hrf;refine bodyPost_ret (resChart rfl _ rfl hres) rfl ?_;refine ⟨⟨l,nodeOf 1 (x,p) z⟩,_,rfl,rep_chart (hrf.mono hszW2) HX.out HY.out,rfl,?_,⟨V,?_⟩,hmf⟩
  ·rw [HEQ.out,end_ok HTOK.out HKK.out];exact go_ok_is _ _
  ·rw [HEQ.out,end_ok HTOK.out HKK.out,go_ok_void];exact hpf
def noChart:SyChart:=⟨[],.mk 0 [] [] [] [] [] [] [] 0⟩
def Rs.chart:Rs SyChart->SyChart
 |.ok c _=>c
 |_=>noChart
def Rs.fc {α:Type}:Rs α->Int
 |.bad c _=>c
 |_=>0
def Rs.fp {α:Type}:Rs α->Int
 |.bad _ p=>p
 |_=>0
def zChart:List Value:=[.slice none 0 0,.int .i64 0,.string ⟨#[]⟩,.string ⟨#[]⟩,.string ⟨#[]⟩,.slice none 0 0,.slice none 0 0,.slice none 0 0,.slice none 0 0,.int .i64 0]
theorem rep_no (W:World) (base:Nat):Rep W base (dvChart true noChart) zChart:=by
 have h1:Rep W base (dvNode true noChart.root) [.int .i64 0,.string ⟨#[]⟩,.string ⟨#[]⟩,.string ⟨#[]⟩,.slice none 0 0,.slice none 0 0,.slice none 0 0,.slice none 0 0,.int .i64 0]:=rep_nodeNil (k:=0) (p:=0) (nm:=[]) (dft:=[]) rfl rfl;obtain ⟨F,k1,k2,k3⟩:=h1;refine ⟨[]++F,DvsAt.cons ?_ k1,k2,k3⟩;unfold dvVars DvAt;exact ⟨[],[],World.ownsRow_nil W 0 _ _,rfl,DvsAt.nil W⟩
theorem resCF {w:World} {g g':Nat} {v0 v1 v2 v3 v4 v5 v6 v7 v8 v9 x y:Value} {fn:Func} {p p':Tmp} (hr:fn.results=#[.cell p 29,.cell p' 59]) (tmps:Array Value) (hp:tmps.getD p undef=.pointer (some ⟨g,0,none⟩)) (hp':tmps.getD p' undef=.pointer (some ⟨g',0,none⟩))
  (h:CB w g 29 [v0,v1,v2,v3,v4,v5,v6,v7,v8,v9]) (h':FtB w g' x y):(results fn tmps).run Tryz.prog w=.ok (.tuple #[.agg #[v0,v1,v2,v3,v4,v5,v6,v7,v8,v9],.agg #[x,y]]) w:=by
 have e1:tmps[p]?.getD undef=.pointer (some ⟨g,0,none⟩):=by simpa using hp
 have e2:tmps[p']?.getD undef=.pointer (some ⟨g',0,none⟩):=by simpa using hp'
 simp [results,hr,e1,e2,asAddr,ldChart h,h'.load]
def SpEnd (w:World) (R:Rs SyChart) (e:Ending) (w':World):Prop :=
 ∃ys:List Value,e=.returned (.tuple #[.agg ys.toArray,ftV R.fc R.fp])/\Rep w' w.heap.size (dvChart true R.chart) ys/\ys.length=10/\Below w.heap.size w w'/\∀c p,R=.bad c p->c≠0
theorem cells10 {l:List Value} (h:l.length=10):∃y0 y1 y2 y3 y4 y5 y6 y7 y8 y9,l=[y0,y1,y2,y3,y4,y5,y6,y7,y8,y9]:=by
 match l,h with
 |[y0,y1,y2,y3,y4,y5,y6,y7,y8,y9],_=>exact ⟨_,_,_,_,_,_,_,_,_,_,rfl⟩
theorem syR_start (xs:List Tk):(Rs.ok () (⟨xs,0,0,0⟩:Ss)).go chartR=syR xs:=rfl
theorem PS.start {w:World} {n c:Nat} {A:Option Addr} {xs:List Tk} {b:Nat} (hb:CB w b 97 [.slice A n c,.int .i64 0,.int .i64 0,.int .i64 0,.int .i64 0,.int .i64 0,.int .i64 0,.int .i64 0,.int .i64 0]) (hA:TkAt w A n xs) (hlt:∀g o,A=some ⟨g,o,none⟩->g<b) (hV:Vs w) (hk:0<b/\1<b) (hn:n<=100000) (he:TkEnds xs) (hL:∀t∈xs,Lex t) (hT:∀t∈xs,LexT t) :
  PS w b ⟨A,n,c,xs⟩ 0 0 (.ok () ⟨xs,0,0,0⟩):=by
 have hn0:0<n:=by rw [<-hA.1];exact (ends_at he).2
 exact ⟨⟨⟨0,0,0,0,0,0,0,0⟩,hb,hn0,rfl,rfl,rfl,rfl,he,rfl,rfl,rfl,Nat.zero_le _,Nat.zero_le _,Nat.zero_le _⟩,hA,hlt,hV,hk,⟨hn,hL,hT,he⟩⟩
theorem sparse_any (w:World) (s:ByteArray) (hVr:Vars w) (hV:Vs w) :
  Calls Tryz.prog 27 #[.string s] w (SpEnd w (syF s.data.toList)):=by
 obtain ⟨g1,hg1⟩:∃g,g=w.heap.size:=⟨_,rfl⟩
 obtain ⟨g2,hg2⟩:∃g,g=w.heap.size+1:=⟨_,rfl⟩
 obtain ⟨Wa,hWa⟩:∃W,W=w.alloc (.cells #[.slice none 0 0,.int .i64 0,.string ⟨#[]⟩,.string ⟨#[]⟩,.string ⟨#[]⟩,.slice none 0 0,.slice none 0 0,.slice none 0 0,.slice none 0 0,.int .i64 0] 29):=⟨_,rfl⟩
 obtain ⟨W0,hW0⟩:∃W,W=Wa.alloc (.cells #[.int .i64 0,.int .i64 0] 59):=⟨_,rfl⟩
 have hsa:Wa.heap.size=w.heap.size+1:=by rw [hWa];simp
 have HX:Hid (CB W0 g1 29 zChart):=by rw [hW0,hWa,hg1];exact (CB.new w _ zChart).alloc _
 have HF:Hid (CB W0 g2 59 [.int .i64 0,.int .i64 0]):=by
  have:=CB.new Wa 59 [.int .i64 0,.int .i64 0];rw [hsa,<-hg2] at this;rw [hW0];exact this
 have HB0:Hid (Below w.heap.size w W0):=by rw [hW0,hWa];exact ((b_ _ w).alloc (n_ _) _).alloc (by simp) _
 have hord:w.heap.size<=g1/\g1<g2:=by omega
 obtain ⟨S,hS⟩:∃S,scF s.data.toList=S:=⟨_,rfl⟩
 have HT:=h_ (tokens_vars W0 s (hVr.below HB0.out) S hS);have hlen:=scF_len s.data.toList;have HLX:=h_ (scF_lex s.data.toList).1;have HLT:=h_ (scF_lexT s.data.toList);have HEN:=h_ (@scF_ends s.data.toList);have HVV:=h_ (λ (W:World) (hb:Below w.heap.size w W)=>hV.below hb)
 have hkw:0<w.heap.size/\1<w.heap.size:=⟨hV.kw.lt,hV.sg.lt⟩
 have HRR:Hid (syF s.data.toList=if S.2.1=0 then syR S.1 else .bad S.2.1 S.2.2):=by show _=_;unfold syF;rw [hS]
 obtain ⟨R,hR⟩:∃R,syF s.data.toList=R:=⟨_,rfl⟩
 rw [hR] at HRR ⊢;rw [hS] at hlen HLX HLT HEN;obtain ⟨xs,sc,sp⟩:=S;simp only at HT hlen HLX HLT HEN HRR
 obtain ⟨n,hn⟩:∃n,xs.length=n:=⟨_,rfl⟩
 have HLN:=h_ hn;rw [hn] at hlen HT;clear hVr hV hS hR hn hsa;go_enter Tryz.func27,Tryz.ntmps27;go_upto_region 1 with fail;rw [<-hWa,<-hW0,<-hg2,<-hg1];clear hWa hW0 hg1 hg2;go_wp2_with fail;refine HT.out.mono ?_;rintro e w1 ⟨A,c,rfl,hA0,hnc,hcm,htr,hb⟩
 obtain ⟨g5,hg5⟩:∃g,g=w1.heap.size:=⟨_,rfl⟩
 obtain ⟨W1,hW1⟩:∃W1,W1=w1.alloc (.cells #[.int .i64 sc,.int .i64 sp] 59):=⟨_,rfl⟩
 have hb1:Below w1.heap.size w1 W1:=by rw [hW1];exact (b_ _ w1).alloc (n_ _) _
 have HG1:Hid (FtB W1 g5 (.int .i64 sc) (.int .i64 sp)):=by rw [hW1,hg5];exact FtB.new _ _ _
 have HX1:=h_ ((HX.out.below hb).below hb1);have HF1:=h_ ((HF.out.below hb).below hb1);have HB1:=h_ ((HB0.out.trans (hb.mono HB0.out.size)).trans (hb1.mono (by have:=HB0.out.size;have:=hb.size;omega)));have HTK1:Hid (TkAt W1 A n xs):=(htr.reads).at.below hb1;have hs1:=hb.size;have hs1':=hb1.size
 have hg25:g2<g5:=by have:=HF.out.lt;omega
 have HTKL:Hid (∀g o,A=some ⟨g,o,none⟩->0<n->g<g5):=λ g o e hn0=>by
  obtain ⟨t,ht⟩:=((htr.reads).at:TkAt w1 A n xs).get hn0;obtain ⟨g',o',e',x0,_⟩:=((htr.reads).at:TkAt w1 A n xs).2 0 t ht;rw [e] at e';injection e' with e';injection e' with e1 _;rw [e1,hg5];exact World.block_lt_of_cell? w1 _ x0
 have y0:=HG1.out.c0;have y1:=HG1.out.c1;have a0:=HX1.out.c 0 rfl;have a1:=HX1.out.c 1 rfl;have a2:=HX1.out.c 2 rfl;have a3:=HX1.out.c 3 rfl;have a4:=HX1.out.c 4 rfl;have a5:=HX1.out.c 5 rfl;have a6:=HX1.out.c 6 rfl;have a7:=HX1.out.c 7 rfl;have a8:=HX1.out.c 8 rfl;have a9:=HX1.out.c 9 rfl;have f0:=HX1.out.fr 0;have f1:=HX1.out.fr 1;have f2:=HX1.out.fr 2;have f3:=HX1.out.fr 3;have f4:=HX1.out.fr 4;have f5:=HX1.out.fr 5;have f6:=HX1.out.fr 6;have f7:=HX1.out.fr 7;have f8:=HX1.out.fr 8;have f9:=HX1.out.fr 9;have k0:=HF1.out.c 0 rfl;have k1:=HF1.out.c 1 rfl;have j0:=HF1.out.fr 0;have j1:=HF1.out.fr 1;clear hb hb1 HT HX HF HB0 htr hA0 hcm;go_upto_region 2 with fail;rw [<-hW1,<-hg5];clear hW1 hg5
 by_cases h0:sc=0
 ·subst h0;have HE:=h_ (HEN.out rfl)
  have HRS:Hid (R=syR xs):=by show _=_;rw [HRR.out,if_pos rfl]
  obtain ⟨b,hb6⟩:∃g,g=W1.heap.size:=⟨_,rfl⟩
  obtain ⟨W2,hW2⟩:∃W2,W2=W1.alloc (.cells #[.slice A n c,.int .i64 0,.int .i64 0,.int .i64 0,.int .i64 0,.int .i64 0,.int .i64 0,.int .i64 0,.int .i64 0] 97):=⟨_,rfl⟩
  have hb2:Below W1.heap.size W1 W2:=by rw [hW2];exact (b_ _ W1).alloc (n_ _) _
  have hsw:=HB1.out.size
  have hg5b:g5<b:=by have:=HG1.out.lt;omega
  have HP2:Hid (PS W2 b ⟨A,n,c,xs⟩ 0 0 (.ok () ⟨xs,0,0,0⟩)):=by
   refine PS.start (by rw [hW2,hb6];exact CB.new W1 _ [.slice A n c,.int .i64 0,.int .i64 0,.int .i64 0,.int .i64 0,.int .i64 0,.int .i64 0,.int .i64 0,.int .i64 0]) (HTK1.out.below hb2) (λ g o e=>?_) ((HVV.out W1 HB1.out).below hb2) (by omega) (by omega) HE.out HLX.out HLT.out;have:=HTKL.out g o e (by rw [<-HLN.out];exact (ends_at HE.out).2);omega
  have HC:=h_ (schart_any W2 b ⟨A,n,c,xs⟩ _ HP2.out);have HX2:=h_ (HX1.out.below hb2);have HF2:=h_ (HF1.out.below hb2);have HB2:=h_ (HB1.out.trans (hb2.mono HB1.out.size));clear hb2 HRR HEN HP2 HTKL;go_upto_region 5 with fail;rw [<-hW2,<-hb6];clear hW2 hb6 a0 a1 a2 a3 a4 a5 a6 a7 a8 a9 f0 f1 f2 f3 f4 f5 f6 f7 f8 f9 k0 k1 j0 j1 y0 y1 HX1 HF1 HB1 HTK1 HG1;go_wp2_with fail;refine HC.out.mono ?_;rintro e w3 ⟨cc,ys,rfl,hrp,hl,his,⟨V,hp⟩,hm⟩;rw [syR_start,<-HRS.out] at his hp
  have zo:∀u∈ys,u.oneCell'=true:=by obtain ⟨F2,f1,_,_⟩:=hrp;exact f1.ones
  obtain ⟨z0,z1,z2,z3,z4,z5,z6,z7,z8,z9,rfl⟩:=cells10 hl
  obtain ⟨g7,hg7⟩:∃g,g=w3.heap.size:=⟨_,rfl⟩
  obtain ⟨W4,hW4⟩:∃W4,W4=w3.alloc (.cells #[z0,z1,z2,z3,z4,z5,z6,z7,z8,z9] 29):=⟨_,rfl⟩
  have hb4:Below w3.heap.size w3 W4:=by rw [hW4];exact (b_ _ w3).alloc (n_ _) _
  have HN4:Hid (CB W4 g7 29 [z0,z1,z2,z3,z4,z5,z6,z7,z8,z9]):=by rw [hW4,hg7];exact CB.new w3 _ [z0,z1,z2,z3,z4,z5,z6,z7,z8,z9]
  have HX4:=h_ ((HX2.out.mv hm (by omega)).below hb4);have HF4:=h_ ((HF2.out.mv hm (by omega)).below hb4);have HP4:=h_ (hp.below hb4);have hs2:=HB2.out.size;have hs3:=World.grownBy.size hm;have HB4:Hid (Below w.heap.size w W4):=(((Ch.of_below HB2.out (S:=λ k=>k=b)).trans (Ch.of_mv hm)).trans (Ch.of_below hb4)).below (λ k hk e=>by omega);have HRP:=h_ (hrp.below hb4);have HIS:=h_ his
  have hg7b:b<g7:=by rw [hg7];exact hp.blt
  have hsW2:g2<W2.heap.size:=HF2.out.lt;have HCF:=h_ (sfailed_any W4 b _ V 0 _ HP4.out);have hnew:∀v∈[z0,z1,z2,z3,z4,z5,z6,z7,z8,z9],v.oneCell'=true:=zo;have st:∀y∈[z0,z1,z2,z3,z4,z5,z6,z7,z8,z9],∀(w:World) (a:Addr),(store a y).run Tryz.prog w=stored Tryz.prog w a y .plain:=λ y hy w a=>run_store _ w a y .plain (zo y hy);have s0:=st z0 (by simp);have s1:=st z1 (by simp);have s2:=st z2 (by simp);have s3:=st z3 (by simp);have s4:=st z4 (by simp);have s5:=st z5 (by simp);have s6:=st z6 (by simp);have s7:=st z7 (by simp);have s8:=st z8 (by simp);have s9:=st z9 (by simp);clear hrp hl his hp hm hb4 HC HX2 HF2 HB2 st zo hnew;go_upto_region 6 with fail;rw [<-hW4,<-hg7];clear hW4 hg7;have a0:=HX4.out.c 0 rfl;have a1:=HX4.out.c 1 rfl;have a2:=HX4.out.c 2 rfl;have a3:=HX4.out.c 3 rfl;have a4:=HX4.out.c 4 rfl;have a5:=HX4.out.c 5 rfl;have a6:=HX4.out.c 6 rfl;have a7:=HX4.out.c 7 rfl;have a8:=HX4.out.c 8 rfl;have a9:=HX4.out.c 9 rfl;have f0:=HX4.out.fr 0;have f1:=HX4.out.fr 1;have f2:=HX4.out.fr 2;have f3:=HX4.out.fr 3;have f4:=HX4.out.fr 4;have f5:=HX4.out.fr 5;have f6:=HX4.out.fr 6;have f7:=HX4.out.fr 7;have f8:=HX4.out.fr 8;have f9:=HX4.out.fr 9;have k0:=HF4.out.c 0 rfl;have k1:=HF4.out.c 1 rfl;have j0:=HF4.out.fr 0;have j1:=HF4.out.fr 1
  cases R with
  |out=>exact absurd rfl HP4.out.notOut
  |bad cc pp =>
   obtain ⟨r,hr,_,_,_,hm1,hm2,hm3⟩:=HP4.out.out;have HCZ:=h_ hm3;have p2:=hr.c2;have p3:=hr.c3;rw [hm1] at p2;rw [hm2] at p3;clear hr hm1 hm2 hm3;go_wp2_with fail;refine HCF.out.mono ?_;rintro e w5 ⟨rfl,rfl⟩;have hw:(Rs.bad cc pp:Rs SyChart).void.wrong?=true:=rfl;rw [hw];clear HCF hw;go_wp2_with fail
   go_region
   go_wp2_with fail
   obtain ⟨W9,hW9⟩:∃W,W=sets (sets W4 g1 0 zChart) g2 0 [.int .i64 cc,.int .i64 pp]:=⟨_,rfl⟩
   have hS1:CB W9 g1 29 zChart:=by rw [hW9];exact (HX4.out.all zChart rfl).mv (sets_mv _ g2 0 _) (by omega)
   have hS2:FtB W9 g2 (.int .i64 cc) (.int .i64 pp):=by rw [hW9];exact (HF4.out.mv (sets_mv _ g1 0 _) (by omega)).all [.int .i64 cc,.int .i64 pp] rfl
   have hP9:Below w.heap.size w W9:=by rw [hW9];exact sets_below (sets_below HB4.out (by omega) 0 _) (by omega) 0 _
   have hC9:Ch (λ k=>k=g1∨k=g2) W4 W9:=by rw [hW9];exact Ch.many (.inl (.inr rfl)) _ 0 (Ch.many (.inl (.inl rfl)) _ 0 (Ch.refl _ _))
   simp only [sets,Nat.reduceAdd,zChart] at hW9;rw [<-hW9];clear hW9;refine bodyPost_ret (resCF (w:=W9.drew) rfl _ rfl rfl hS1 hS2) rfl ?_;exact ⟨zChart,rfl,rep_no _ _,rfl,hP9.drew,λ c p e=>by injection e with e _;rw [<-e];exact HCZ.out⟩
  |ok c s9 =>
   have p0:=HN4.out.c 0 rfl;have p1:=HN4.out.c 1 rfl;have p2:=HN4.out.c 2 rfl;have p3:=HN4.out.c 3 rfl;have p4:=HN4.out.c 4 rfl;have p5:=HN4.out.c 5 rfl;have p6:=HN4.out.c 6 rfl;have p7:=HN4.out.c 7 rfl;have p8:=HN4.out.c 8 rfl;have p9:=HN4.out.c 9 rfl;obtain rfl:=HIS.out c s9 rfl;go_wp2_with fail;refine HCF.out.mono ?_;rintro e w5 ⟨rfl,rfl⟩;have hw:(Rs.ok c s9:Rs SyChart).void.wrong?=false:=rfl;rw [hw];clear HCF hw;go_wp2_with fail
   have hle:w.heap.size<=W2.heap.size:=by omega
   obtain ⟨W9,hW9⟩:∃W,W=sets (sets W4 g1 0 [z0,z1,z2,z3,z4,z5,z6,z7,z8,z9]) g2 0 [.int .i64 0,.int .i64 0]:=⟨_,rfl⟩
   have hS1:CB W9 g1 29 [z0,z1,z2,z3,z4,z5,z6,z7,z8,z9]:=by rw [hW9];exact (HX4.out.all [z0,z1,z2,z3,z4,z5,z6,z7,z8,z9] rfl).mv (sets_mv _ g2 0 _) (by omega)
   have hS2:FtB W9 g2 (.int .i64 0) (.int .i64 0):=by rw [hW9];exact (HF4.out.mv (sets_mv _ g1 0 _) (by omega)).all [.int .i64 0,.int .i64 0] rfl
   have hP9:Below w.heap.size w W9:=by rw [hW9];exact sets_below (sets_below HB4.out (by omega) 0 _) (by omega) 0 _
   have hC9:Ch (λ k=>k=g1∨k=g2) W4 W9:=by rw [hW9];exact Ch.many (.inl (.inr rfl)) _ 0 (Ch.many (.inl (.inl rfl)) _ 0 (Ch.refl _ _))
   simp only [sets,Nat.reduceAdd] at hW9;rw [<-hW9];clear hW9;refine bodyPost_ret (resCF (w:=W9) rfl _ rfl rfl hS1 hS2) rfl ?_;exact ⟨_,rfl,(HRP.out.ch hC9 (λ g hg _ e=>by rcases e with e|e <;> omega)).mono hle,rfl,hP9,λ c p e=>by cases e⟩
 ·have hne:(sc != 0)=true:=by simpa using h0
  have HRS:Hid (R=.bad sc sp):=by show _=_;rw [HRR.out,if_neg h0]
  have HCZ:=h_ h0;clear h0 HRR HEN;go_wp2_with fail
  go_region
  go_wp2_with fail;have hsw:=HB1.out.size
  obtain ⟨W9,hW9⟩:∃W,W=sets (sets W1 g1 0 zChart) g2 0 [.int .i64 sc,.int .i64 sp]:=⟨_,rfl⟩
  have hS1:CB W9 g1 29 zChart:=by rw [hW9];exact (HX1.out.all zChart rfl).mv (sets_mv _ g2 0 _) (by omega)
  have hS2:FtB W9 g2 (.int .i64 sc) (.int .i64 sp):=by rw [hW9];exact (HF1.out.mv (sets_mv _ g1 0 _) (by omega)).all [.int .i64 sc,.int .i64 sp] rfl
  have hP9:Below w.heap.size w W9:=by rw [hW9];exact sets_below (sets_below HB1.out (by omega) 0 _) (by omega) 0 _
  have hC9:Ch (λ k=>k=g1∨k=g2) W1 W9:=by rw [hW9];exact Ch.many (.inl (.inr rfl)) _ 0 (Ch.many (.inl (.inl rfl)) _ 0 (Ch.refl _ _))
  simp only [sets,Nat.reduceAdd,zChart] at hW9;rw [<-hW9];clear hW9;refine bodyPost_ret (resCF (w:=W9.drew) rfl _ rfl rfl hS1 hS2) rfl ?_;exact ⟨zChart,by rw [HRS.out];rfl,by rw [HRS.out];exact rep_no _ _,rfl,hP9.drew,λ c p e=>by rw [HRS.out] at e;injection e with e _;rw [<-e];exact HCZ.out⟩
theorem DvsAt.get {w:World}:∀{ds:List DV} {xs:List Value} {F:List Nat},DvsAt w ds xs F->∀{i:Nat} {d:DV},ds[i]?=some d->∃x F',xs[i]?=some x/\DvAt w d x F'
 |[],_,_,_,i,d,hi=>by simp at hi
 |d0::ds,_,_,h,i,d,hi=>by
  unfold DvsAt at h;obtain ⟨x,ys,F1,F2,rfl,rfl,h1,h2⟩:=h
  match i,hi with
  |0,hi =>
   obtain rfl:d0=d:=by simpa using hi
   exact ⟨x,F1,rfl,h1⟩
  |i+1,hi =>
   obtain ⟨y,F',e,h3⟩:=DvsAt.get h2 (i:=i) (d:=d) (by simpa using hi);exact ⟨y,F',by simpa using e,h3⟩
theorem DvAt.cell {w:World} {e:TypeId} {k n:Nat} {cs:List DV} {x:Value} {F:List Nat} (h:DvAt w (.row e k n cs) x F) {i:Nat} {d:DV} (hi:cs[i]?=some d):∃g c v F',x=.slice (some ⟨g,0,none⟩) n c/\n<=c/\c<=maxLen/\w.cell? ⟨g,i,none⟩=some v/\DvAt w d v F':=by
 unfold DvAt at h;obtain ⟨xs,H,⟨h1,h2⟩,_,h3⟩:=h;obtain ⟨v,F',h4,h5⟩:=h3.get hi;rcases h2 with ⟨_,h2⟩|⟨g,c,cur,hx,_,hg,hc1,hc2,hc3,hc4⟩
 ·rw [h2,Nat.zero_mul] at h1;rw [List.eq_nil_of_length_eq_zero h1] at h4;simp at h4
 ·refine ⟨g,c,v,F',hx,hc1,hc2,?_,h5⟩;rw [cell_of_row w g i _ _ _ hg];rw [<-hc4,List.getElem?_take] at h4
  split at h4
  ·simpa using h4
  ·cases h4
theorem DvAt.v {w:World} {u x:Value} {F:List Nat} (h:DvAt w (.v u) x F):x=u:=by unfold DvAt at h;exact h.1
end Go.Proofs.YtpgeidpfhakgaaaGreatDoor
namespace Go.Proofs.YtpgeidpfhakgaaaGreatDoor
def Ex.size:Ex->Nat
 |.one _ x _=>1+x.size
 |.both _ x y=>1+(x.size+y.size)
 |_=>1
theorem par_ge (b:Bool) (s:List UInt8):s.length<=(par b s).length:=by
 cases b with
 |false=>exact n_ _
 |true=>simp only [par,if_true,List.length_cons,List.length_append,List.length_nil];omega
theorem Hd.len {t:List UInt8} (h:Hd t):1<=t.length:=by
 obtain ⟨c,r,rfl,_⟩:=h;simp
theorem size_tx:∀e:Ex,e.fine->e.size<=e.tx.length
 |.int n p,h=>(tx_Hd (.int n p) h).len
 |.var s p,h=>(tx_Hd (.var s p) h).len
 |.inn s p,h=>(tx_Hd (.inn s p) h).len
 |.one op x p,h=>by
  have h1:=size_tx x h.2;have h2:=par_ge x.isBoth x.tx;show 1+x.size<=(_::par x.isBoth x.tx).length;rw [List.length_cons];omega
 |.both op x y,h=>by
  have h1:=size_tx x h.2.1;have h2:=size_tx y h.2.2;have h3:=par_ge (decide (x.lev<rowOf op)) x.tx;have h4:=par_ge (decide (y.lev<=rowOf op)) y.tx;show 1+(x.size+y.size)<=(par (decide (x.lev<rowOf op)) x.tx++32::(sgOf op++32::par (decide (y.lev<=rowOf op)) y.tx)).length;simp only [List.length_append,List.length_cons];omega
def node (k n:Int) (s:List UInt8) (o:Int) (l:List (Option Ex)):Option Ex :=
 if k=1/\0<=n/\n<=9223372036854775807/\s=[]/\o=0/\l=[] then some (.int n 0)
 else if k=2/\n=0/\isNm s=true/\o=0/\l=[] then some (.var s 0)
 else if k=3/\n=0/\isNm s=true/\o=0/\l=[] then some (.inn s 0)
 else match l with
  |[some x]=>if k=4/\n=0/\s=[]/\(o=14∨o=15) then some (.one o x 0) else none
  |[some x,some y]=>if k=5/\n=0/\s=[]/\rowOf o<6 then some (.both o x y) else none
  |_=>none
mutual
def GX.ex:GX->Option Ex
 |.mk k n s o l _=>node k n s o (GX.exs l)
def GX.exs:List GX->List (Option Ex)
 |[]=>[]
 |x::l=>x.ex::GX.exs l
end
mutual
def GX.rng:GX->Prop
 |.mk _ n s o l _=>(-9223372036854775808<=n/\n<=9223372036854775807)/\(-9223372036854775808<=o/\o<=9223372036854775807)/\s.length<=140737488351232/\GX.rngs l
def GX.rngs:List GX->Prop
 |[]=>True
 |x::l=>x.rng/\GX.rngs l
end
theorem exs_one (x:GX):GX.exs [x]=[x.ex]:=by rw [GX.exs,GX.exs]
theorem exs_two (x y:GX):GX.exs [x,y]=[x.ex,y.ex]:=by rw [GX.exs,GX.exs,GX.exs]
theorem exs_nil:GX.exs []=[]:=by rw [GX.exs]
theorem ex_mk (k n:Int) (s:List UInt8) (o:Int) (l:List GX) (p:Int):(GX.mk k n s o l p).ex=node k n s o (GX.exs l):=by rw [GX.ex]
theorem exs_len:∀l:List GX,(GX.exs l).length=l.length
 |[]=>by rw [exs_nil];rfl
 |x::l=>by rw [GX.exs,List.length_cons,List.length_cons,exs_len l]
theorem node_one (o:Int) (x:Ex) (h:o=14∨o=15):node 4 0 [] o [some x]=some (.one o x 0):=by
 unfold node;rw [if_neg (λ h=>absurd h.1 (by decide)),if_neg (λ h=>absurd h.1 (by decide)),if_neg (λ h=>absurd h.1 (by decide))];exact if_pos ⟨rfl,rfl,rfl,h⟩
theorem node_both (o:Int) (x y:Ex) (h:rowOf o<6):node 5 0 [] o [some x,some y]=some (.both o x y):=by
 unfold node;rw [if_neg (λ h=>absurd h.1 (by decide)),if_neg (λ h=>absurd h.1 (by decide)),if_neg (λ h=>absurd h.1 (by decide))];exact if_pos ⟨rfl,rfl,rfl,h⟩
theorem node_one_none (o:Int):node 4 0 [] o [none]=none:=by
 unfold node;rw [if_neg (λ h=>absurd h.1 (by decide)),if_neg (λ h=>absurd h.1 (by decide)),if_neg (λ h=>absurd h.1 (by decide))]
theorem node_both_none (o:Int) (x y:Option Ex) (h:x=none∨y=none):node 5 0 [] o [x,y]=none:=by
 unfold node;rw [if_neg (λ h=>absurd h.1 (by decide)),if_neg (λ h=>absurd h.1 (by decide)),if_neg (λ h=>absurd h.1 (by decide))];rcases h with rfl|rfl
 ·rfl
 ·cases x <;> rfl
def nodeOk (k n:Int) (s:List UInt8) (o:Int) (m:Nat):Bool :=
 if k=1 then decide (o=0)&&decide (m=0)&&decide (0<=n)&&decide (s=[])
 else if k=2∨k=3 then decide (o=0)&&decide (m=0)&&decide (n=0)&&isNm s
 else if k=4 then decide (n=0)&&decide (s=[])&&(decide (o=14) || decide (o=15))&&decide (m=1)
 else if k=5 then decide (n=0)&&decide (s=[])&&decide (rowOf o<6)&&decide (m=2)
 else false
theorem node_bad {k n:Int} {s:List UInt8} {o:Int} {l:List (Option Ex)} (h:nodeOk k n s o l.length=false):node k n s o l=none:=by
 unfold node;unfold nodeOk at h
 by_cases h1:k=1
 ·rw [if_pos h1] at h;rw [if_neg (by rintro ⟨_,a,_,b,c,d⟩;subst b;subst c;subst d;simp [a] at h),if_neg (by omega),if_neg (by omega)]
  split
  ·rw [if_neg (by omega)]
  ·rw [if_neg (by omega)]
  ·rfl
 ·rw [if_neg h1] at h
  by_cases h2:k=2∨k=3
  ·rw [if_pos h2] at h;rw [if_neg (by omega),if_neg (by rintro ⟨_,a,b,c,d⟩;subst a;subst c;subst d;simp [b] at h),if_neg (by rintro ⟨_,a,b,c,d⟩;subst a;subst c;subst d;simp [b] at h)]
   split
   ·rw [if_neg (by omega)]
   ·rw [if_neg (by omega)]
   ·rfl
  ·rw [if_neg h2] at h;rw [if_neg (by omega),if_neg (by omega),if_neg (by omega)]
   by_cases h4:k=4
   ·rw [if_pos h4] at h
    split
    ·rw [if_neg (by rintro ⟨_,a,b,c⟩;subst a;subst b;simp at h;omega)]
    ·rw [if_neg (by omega)]
    ·rfl
   ·rw [if_neg h4] at h
    split
    ·rw [if_neg (by omega)]
    ·rw [if_neg (by rintro ⟨c,a,b,d⟩;subst a;subst b;subst c;simp at h;omega)]
    ·rfl
theorem node_some {k n:Int} {s:List UInt8} {o:Int} {l:List (Option Ex)} {e:Ex} (h:node k n s o l=some e) :
  (k=1/\0<=n/\n<=9223372036854775807/\s=[]/\o=0/\l=[]/\e=.int n 0)∨(k=2/\n=0/\isNm s=true/\o=0/\l=[]/\e=.var s 0)∨(k=3/\n=0/\isNm s=true/\o=0/\l=[]/\e=.inn s 0) ∨
  (∃x,k=4/\n=0/\s=[]/\(o=14∨o=15)/\l=[some x]/\e=.one o x 0)∨(∃x y,k=5/\n=0/\s=[]/\rowOf o<6/\l=[some x,some y]/\e=.both o x y):=by
 unfold node at h
 split at h
 ·rename_i c;exact .inl ⟨c.1,c.2.1,c.2.2.1,c.2.2.2.1,c.2.2.2.2.1,c.2.2.2.2.2,(Option.some.inj h).symm⟩
 ·split at h
  ·rename_i c;exact .inr (.inl ⟨c.1,c.2.1,c.2.2.1,c.2.2.2.1,c.2.2.2.2,(Option.some.inj h).symm⟩)
  ·split at h
   ·rename_i c;exact .inr (.inr (.inl ⟨c.1,c.2.1,c.2.2.1,c.2.2.2.1,c.2.2.2.2,(Option.some.inj h).symm⟩))
   ·match l,h with
    |[some x],h =>
     have h':(if k=4/\n=0/\s=[]/\(o=14∨o=15) then some (Ex.one o x 0) else none)=some e:=h
     split at h'
     ·rename_i c;exact .inr (.inr (.inr (.inl ⟨x,c.1,c.2.1,c.2.2.1,c.2.2.2,rfl,(Option.some.inj h').symm⟩)))
     ·cases h'
    |[some x,some y],h =>
     have h':(if k=5/\n=0/\s=[]/\rowOf o<6 then some (Ex.both o x y) else none)=some e:=h
     split at h'
     ·rename_i c;exact .inr (.inr (.inr (.inr ⟨x,y,c.1,c.2.1,c.2.2.1,c.2.2.2,rfl,(Option.some.inj h').symm⟩)))
     ·cases h'
    |[],h=>cases h
    |[none],h=>cases h
    |[none,_],h=>cases h
    |[some _,none],h=>cases h
    |none::_::_::_,h=>cases h
    |some _::none::_::_,h=>cases h
    |some _::some _::_::_,h=>cases h
theorem exs_is_one {l:List GX} {a:Option Ex} (h:GX.exs l=[a]):∃x,l=[x]/\x.ex=a:=by
 match l,h with
 |[],h=>rw [exs_nil] at h;cases h
 |[x],h=>rw [exs_one] at h;exact ⟨x,rfl,List.head_eq_of_cons_eq h⟩
 |x::y::l,h =>
  have:=exs_len (x::y::l);rw [h] at this;simp at this
theorem exs_is_two {l:List GX} {a b:Option Ex} (h:GX.exs l=[a,b]):∃x y,l=[x,y]/\x.ex=a/\y.ex=b:=by
 match l,h with
 |[],h=>rw [exs_nil] at h;cases h
 |[x],h=>rw [exs_one] at h;cases h
 |[x,y],h =>
  rw [exs_two] at h;simp only [List.cons.injEq,and_true] at h;exact ⟨x,y,rfl,h.1,h.2⟩
 |x::y::z::l,h =>
  have:=exs_len (x::y::z::l);rw [h] at this;simp at this
theorem exs_is_nil {l:List GX} (h:GX.exs l=[]):l=[]:=by
 have:=exs_len l;rw [h] at this;exact List.eq_nil_of_length_eq_zero this.symm
theorem ex_some:∀(x:GX) (e:Ex),x.ex=some e->e.fine/\e.er=e/\x.er=e.gx
 |.mk k n s o l p,e,h=>by
  rw [ex_mk] at h;rcases node_some h with ⟨rfl,a,b,rfl,rfl,c,rfl⟩|⟨rfl,rfl,a,rfl,c,rfl⟩|⟨rfl,rfl,a,rfl,c,rfl⟩|⟨x,rfl,rfl,rfl,a,c,rfl⟩|⟨x,y,rfl,rfl,rfl,a,c,rfl⟩
  ·obtain rfl:=exs_is_nil c;exact ⟨⟨a,b⟩,rfl,by rw [GX.er,GX.ers];rfl⟩
  ·obtain rfl:=exs_is_nil c;exact ⟨a,rfl,by rw [GX.er,GX.ers];rfl⟩
  ·obtain rfl:=exs_is_nil c;exact ⟨a,rfl,by rw [GX.er,GX.ers];rfl⟩
  ·obtain ⟨z,rfl,hz⟩:=exs_is_one c;have ih:=ex_some z x hz;refine ⟨⟨a,ih.1⟩,by rw [Ex.er,ih.2.1],?_⟩;rw [GX.er,GX.ers,GX.ers,ih.2.2];rfl
  ·obtain ⟨z,z',rfl,hz,hz'⟩:=exs_is_two c;have ih:=ex_some z x hz;have ih':=ex_some z' y hz';refine ⟨⟨a,ih.1,ih'.1⟩,by rw [Ex.er,ih.2.1,ih'.2.1],?_⟩;rw [GX.er,GX.ers,GX.ers,GX.ers,ih.2.2,ih'.2.2];show GX.mk 5 0 [] o [x.gx,y.gx] 0=GX.mk 5 0 [] o [x.gx,y.gx] x.pos;rw [<-ih.2.1,er_pos]
 termination_by x=>SizeOf.sizeOf x
def GX.right (x:GX):Option Ex:=match x.ex with
 |some e=>if e.nst<=20/\e.tx.length<=16384 then some e else none
 |none=>none
def GX.txt (x:GX):List UInt8:=match x.right with
 |some e=>e.tx
 |none=>[]
def wrX (x:Option Ex) (n d L:Nat):Option Ex:=match x with
 |some e=>if d+e.nst<=20/\L+e.tx.length<=16384/\n+e.size<=16384 then some e else none
 |none=>none
theorem wrX_right (x:GX):wrX x.ex 0 0 0=x.right:=by
 unfold GX.right wrX
 cases h:x.ex with
 |none=>rfl
 |some e =>
  have:=size_tx e (ex_some x e h).1;simp only [Nat.zero_add]
  by_cases c:e.nst<=20/\e.tx.length<=16384
  ·rw [if_pos c,if_pos ⟨c.1,c.2,by omega⟩]
  ·rw [if_neg c,if_neg (λ hh=>c ⟨hh.1,hh.2.1⟩)]
def wrP (b:Bool) (x:Option Ex) (n d L:Nat):Option Ex:=match x with
 |some e=>if d+((if b=true then 1 else 0)+e.nst)<=20/\L+(par b e.tx).length<=16384/\n+e.size<=16384 then some e else none
 |none=>none
theorem wrP_not (x:Option Ex) (n d L:Nat):wrP false x n d L=wrX x n d L:=by
 cases x with
 |none=>rfl
 |some e=>simp only [wrP,wrX,Bool.false_eq_true,if_false,Nat.zero_add,par]
theorem rng_get:∀{l:List GX} {j:Nat} {x:GX},GX.rngs l->l[j]?=some x->x.rng
 |[],j,x,_,h=>by simp at h
 |y::l,0,x,hr,h=>by
  rw [GX.rngs] at hr
  have:y=x:=by simpa using h
  rw [<-this];exact hr.1
 |y::l,j+1,x,hr,h=>by
  rw [GX.rngs] at hr;exact rng_get hr.2 (by simpa using h)
end Go.Proofs.YtpgeidpfhakgaaaGreatDoor
namespace Go.Proofs.YtpgeidpfhakgaaaGreatDoor
open Go.RowKit
mutual
def sm (pl:Bool):GX->GX->Bool
 |.mk k n s o l p,.mk k' n' s' o' l' p'=>(k==k')&&(n==n')&&(s==s')&&(o==o')&&(!pl || (p==p'))&&decide (l.length=l'.length)&&sms pl l l'
def sms (pl:Bool):List GX->List GX->Bool
 |x::l,y::l'=>sm pl x y&&sms pl l l'
 |_,_=>true
end
theorem GV.out {w:World} {lo hi:Nat} {x:GX} {v:EV} (h:GV w lo hi x v):v.kind=x.kind/\v.num=x.num/\v.name.data.toList=x.name/\v.op=x.op/\v.p=x.p/\v.len=x.subs.length/\v.len<=v.cap/\v.cap<=maxLen/\GRow w lo hi x.subs v.A 0:=by
 cases x;unfold GV at h;exact h
theorem sub_size {x:GX} {i:Nat} {y:GX} (h:x.subs[i]?=some y):SizeOf.sizeOf y<SizeOf.sizeOf x:=by
 cases x with
 |mk k n s o l p =>
  have hm:y∈l:=List.mem_of_getElem? h;have:=List.sizeOf_lt_of_mem hm;simp only [GX.mk.sizeOf_spec];omega
end Go.Proofs.YtpgeidpfhakgaaaGreatDoor
namespace Go.Proofs.YtpgeidpfhakgaaaGreatDoor
open Go.RowKit
theorem drop_cons2 {α:Type} {l:List α} {i:Nat} {x:α} (h:l[i]?=some x):l.drop i=x::l.drop (i+1):=by
 obtain ⟨hl,he⟩:=List.getElem?_eq_some_iff.1 h;rw [List.drop_eq_getElem_cons hl,he]
end Go.Proofs.YtpgeidpfhakgaaaGreatDoor
namespace Go.Proofs.YtpgeidpfhakgaaaGreatDoor
open Go.RowKit Go.Deep Go.ChangeShapes Go.WideShapes
theorem list6 {α:Type} {l:List α} (h:l.length=6):∃a b c d e f,l=[a,b,c,d,e,f]:=by
 match l,h with
 |[a,b,c,d,e,f],_=>exact ⟨a,b,c,d,e,f,rfl⟩
theorem GRow.of {w:World} {lo hi:Nat} {A:Option Addr}:∀{l:List GX} {i:Nat},(∀(j:Nat) (x:GX),l[j]?=some x->∃g o v,A=some ⟨g,o,none⟩/\lo<=g/\g<hi/\EvAt w g (o+(i+j)*6) v/\GV w lo hi x v)->GRow w lo hi l A i
 |[],_,_=>by unfold GRow;trivial
 |x::l,i,h=>by
  unfold GRow;refine ⟨by simpa using h 0 x rfl,GRow.of λ j y hy=>?_⟩;have:=h (j+1) y (by simpa using hy);rw [show i+1+j=i+(j+1) from by omega];exact this
theorem rngs_of:∀{l:List GX},(∀x∈l,x.rng)->GX.rngs l
 |[],_=>by rw [GX.rngs];trivial
 |x::l,h=>by
  rw [GX.rngs];exact ⟨h x (by simp),rngs_of λ y hy=>h y (by simp [hy])⟩
theorem mem_weightsAll2 {H:Type} {P:Program} {e:TypeId} {d:DataW H} {n:Nat} (hn:n∈d.weights P e):∀{ds:List (DataW H)},d∈ds->n∈DataW.weightsAll P e ds
 |[],h=>by cases h
 |d0::ds,h=>by
  rw [DataW.weightsAll,List.mem_append];rcases List.mem_cons.1 h with rfl|h
  ·exact .inl hn
  ·exact .inr (mem_weightsAll2 hn h)
mutual
def GX.fit:GX->Prop
 |.mk _ _ _ _ l _=>l.length*72<=140737488351232/\GX.fits l
def GX.fits:List GX->Prop
 |[]=>True
 |x::l=>x.fit/\GX.fits l
end
theorem fits_of:∀{l:List GX},(∀x∈l,x.fit)->GX.fits l
 |[],_=>by rw [GX.fits];trivial
 |x::l,h=>by
  rw [GX.fits];exact ⟨h x (by simp),fits_of λ y hy=>h y (by simp [hy])⟩
instance:Inhabited GX:=⟨.mk 0 0 [] 0 [] 0⟩
instance:Inhabited EV:=⟨⟨0,0,⟨#[]⟩,0,none,0,0,0⟩⟩
theorem evAt_of_cells {w:World} {g o i:Nat} {v:EV} (h:w.cells? 0 ((⟨g,o,none⟩:Addr).add (i*6)) 6=some v.cells):EvAt w g (o+i*6) v:=by
 obtain ⟨_,_,hc⟩:=World.cells?_some h;simp only [Addr.add_lit] at hc;exact ⟨hc 0 (by omega),hc 1 (by omega),hc 2 (by omega),hc 3 (by omega),hc 4 (by omega),hc 5 (by omega)⟩
theorem wf_range {n:Int} (h:(Lit.int .i64 n).wf=true):-9223372036854775808<=n/\n<=9223372036854775807:=by
 simp only [Lit.wf,Bool.and_eq_true,decide_eq_true_eq] at h;exact ⟨h.1,h.2⟩
end Go.Proofs.YtpgeidpfhakgaaaGreatDoor
namespace Go.Proofs.YtpgeidpfhakgaaaGreatDoor
open Go.RowKit Go.Deep Go.ChangeShapes Go.WideShapes
def StrAt (w:World) (A:Option Addr) (xs:List ByteArray):Prop:=∀(i:Nat) (s:ByteArray),xs[i]?=some s->∃g o,A=some ⟨g,o,none⟩/\g<w.heap.size/\w.cell? ⟨g,o+i,none⟩=some (.string s)
def IntAt (w:World) (A:Option Addr) (xs:List Int):Prop:=∀(i:Nat) (n:Int),xs[i]?=some n->∃g o,A=some ⟨g,o,none⟩/\g<w.heap.size/\w.cell? ⟨g,o+i,none⟩=some (.int .i64 n)
theorem StrAt.below {w w':World} {A:Option Addr} {xs:List ByteArray} (h:StrAt w A xs) (hb:Below w.heap.size w w'):StrAt w' A xs:=λ i s hs=>by
 obtain ⟨g,o,e,hg,hc⟩:=h i s hs;exact ⟨g,o,e,Nat.lt_of_lt_of_le hg hb.size,by rw [hb.cell hg];exact hc⟩
theorem IntAt.below {w w':World} {A:Option Addr} {xs:List Int} (h:IntAt w A xs) (hb:Below w.heap.size w w'):IntAt w' A xs:=λ i s hs=>by
 obtain ⟨g,o,e,hg,hc⟩:=h i s hs;exact ⟨g,o,e,Nat.lt_of_lt_of_le hg hb.size,by rw [hb.cell hg];exact hc⟩
end Go.Proofs.YtpgeidpfhakgaaaGreatDoor
namespace Go.Proofs.YtpgeidpfhakgaaaGreatDoor
open Go.RowKit
structure NV where
 nA:Option Addr
 nL:Nat
 nC:Nat
 mA:Option Addr
 mL:Nat
 mC:Nat
 aA:Option Addr
 aL:Nat
 aC:Nat
def NV.val (e:NV):Value:=.agg #[.slice e.nA e.nL e.nC,.slice e.mA e.mL e.mC,.slice e.aA e.aL e.aC]
structure NvIs (w:World) (e:NV) (xs zs:List ByteArray) (ns:List Int):Prop where
 nl:xs.length=e.nL
 ml:ns.length=e.mL
 al:zs.length=e.aL
 nc:e.nL<=e.nC/\e.nC<=maxLen
 mc:e.mL<=e.mC/\e.mC<=maxLen
 ac:e.aL<=e.aC/\e.aC<=maxLen
 nm:StrAt w e.nA xs
 ms:IntAt w e.mA ns
 as_:StrAt w e.aA zs
theorem NvIs.below {w w':World} {e:NV} {xs zs:List ByteArray} {ns:List Int} (h:NvIs w e xs zs ns) (hb:Below w.heap.size w w'):NvIs w' e xs zs ns :=
 ⟨h.nl,h.ml,h.al,h.nc,h.mc,h.ac,h.nm.below hb,h.ms.below hb,h.as_.below hb⟩
def EnB (T:TypeId) (w:World) (g:Nat) (e:NV):Prop:=w.heap[g]?=some (.cells #[.slice e.nA e.nL e.nC,.slice e.mA e.mL e.mC,.slice e.aA e.aL e.aC] T (0,0))
section
variable {T:TypeId} {w w':World} {g:Nat} {e:NV}
theorem EnB.lt (h:EnB T w g e):g<w.heap.size:=by
 rcases Nat.lt_or_ge g w.heap.size with hlt|hge
 ·exact hlt
 ·unfold EnB at h;rw [Array.getElem?_eq_none hge] at h;cases h
theorem EnB.c0 (h:EnB T w g e):w.cell? ⟨g,0,none⟩=some (.slice e.nA e.nL e.nC):=cell_of_row w g 0 _ _ _ h
theorem EnB.c1 (h:EnB T w g e):w.cell? ⟨g,1,none⟩=some (.slice e.mA e.mL e.mC):=cell_of_row w g 1 _ _ _ h
theorem EnB.c2 (h:EnB T w g e):w.cell? ⟨g,2,none⟩=some (.slice e.aA e.aL e.aC):=cell_of_row w g 2 _ _ _ h
theorem EnB.fr (h:EnB T w g e) (i:Nat):w.frozen? ⟨g,i,none⟩=false:=by
 unfold EnB at h;simp [World.frozen?,h]
theorem EnB.below (h:EnB T w g e) (hb:Below w.heap.size w w'):EnB T w' g e:=(hb.block g h.lt).trans h
theorem EnB.alloc (h:EnB T w g e) (o:Obj):EnB T (w.alloc o) g e:=(Below.heap_alloc w o g h.lt).trans h
theorem EnB.new (T:TypeId) (w:World) (e:NV):EnB T (w.alloc (.cells #[.slice e.nA e.nL e.nC,.slice e.mA e.mL e.mC,.slice e.aA e.aL e.aC] T)) w.heap.size e:=heap_alloc_new w _
end
end Go.Proofs.YtpgeidpfhakgaaaGreatDoor
namespace Go.Proofs.YtpgeidpfhakgaaaGreatDoor
open Go.RowKit
def CellsAt (w:World) (A:Option Addr) (news:List Value):Prop:=∀(j:Nat) (u:Value),news[j]?=some u->∃g o,A=some ⟨g,o,none⟩/\w.cell? ⟨g,o+j,none⟩=some u
def FullAt (w:World) (e:TypeId) (g:Nat) (olds:List Value):Prop:=w.heap[g]?=some (.cells olds.toArray e (0,0))
theorem FullAt.below {w w':World} {e:TypeId} {g:Nat} {olds:List Value} (h:FullAt w e g olds) (hb:Below w.heap.size w w'):FullAt w' e g olds:=(hb.block g (Array.getElem?_eq_some_iff.1 h).1).trans h
def StRow (w:World) (base:Nat) (v:Value) (xs:List ByteArray):Prop:=w.ownsRow base 9 1 v xs.length (xs.map .string)
def InRow (w:World) (base:Nat) (v:Value) (xs:List Int):Prop:=w.ownsRow base 3 1 v xs.length (xs.map (.int .i64))
theorem ownsRow_below {w w':World} {base:Nat} {e:TypeId} {s:Nat} {v:Value} {n:Nat} {xs:List Value} (h:w.ownsRow base e s v n xs) (hb:Below w.heap.size w w'):w'.ownsRow base e s v n xs:=by
 refine ⟨h.1,?_⟩;rcases h.2 with h2|⟨g,cap,cur,a1,a2,a3,a4⟩
 ·exact .inl h2
 ·exact .inr ⟨g,cap,cur,a1,a2,(hb.block g (Array.getElem?_eq_some_iff.1 a3).1).trans a3,a4⟩
theorem StRow.below {w w':World} {base:Nat} {v:Value} {xs:List ByteArray} (h:StRow w base v xs) (hb:Below w.heap.size w w'):StRow w' base v xs:=ownsRow_below h hb
theorem InRow.below {w w':World} {base:Nat} {v:Value} {xs:List Int} (h:InRow w base v xs) (hb:Below w.heap.size w w'):InRow w' base v xs:=ownsRow_below h hb
theorem StrAt.cells {w:World} {A:Option Addr} {xs:List ByteArray} (h:StrAt w A xs):CellsAt w A (xs.map .string):=λ j u hu=>by
 rw [List.getElem?_map] at hu;obtain ⟨s,hs,rfl⟩:=Option.map_eq_some_iff.1 hu;obtain ⟨g,o,e,_,hc⟩:=h j s hs;exact ⟨g,o,e,hc⟩
theorem IntAt.cells {w:World} {A:Option Addr} {xs:List Int} (h:IntAt w A xs):CellsAt w A (xs.map (.int .i64)):=λ j u hu=>by
 rw [List.getElem?_map] at hu;obtain ⟨s,hs,rfl⟩:=Option.map_eq_some_iff.1 hu;obtain ⟨g,o,e,_,hc⟩:=h j s hs;exact ⟨g,o,e,hc⟩
theorem step_app {P:Program} {ops:Array Oper} {o:Oper} {a:Act} {w:World} {K:Act->World->Prop} {Q:Exit->Act->World->Prop} {E:Prop} (hg:o.guard=none) (s x:Operand) (t:TypeId)
  (hop:o.op=Op.call { callee:=Callee.builtin Builtin.append,args:=#[s,x],argTypes:=#[t,t] }) (sv xv:Value) (hs:a.eval s=sv) (hx:a.eval x=xv) {R:Value->World->Prop}
  (h:∃v' w',(Builtin.append_ #[t,t] o.type #[sv,xv]).run P w=.ok v' w'/\R v' w') (hK:∀v' w',R v' w'->K (a.put o.dst v') w') :
  if Region.wanted o (yielded ops a.tmps)=true then Oper.wp P o a w K Q else E:=by
 have hw:Region.wanted o (yielded ops a.tmps)=true:=by simp [Region.wanted,hg]
 rw [if_pos hw];obtain ⟨v',w',hrun,r⟩:=h;unfold Oper.wp;simp [execOp,hop,resolve,invoke,builtin,hs,hx,hrun,Result.andThen];exact hK v' w' r
end Go.Proofs.YtpgeidpfhakgaaaGreatDoor
namespace Go.Proofs.YtpgeidpfhakgaaaGreatDoor
open Go.RowKit
theorem sub_gv {w:World} {o:Bool} {k n op p:Int} {s:List UInt8} {l:List GX} {x:Value} {F:List Nat} (h:DvAt w (.sub o l) x F):∃v:EV,x=.slice v.A v.len v.cap/\v.kind=k/\v.num=n/\txV s=.string v.name/\v.op=op/\v.p=p/\GV w 0 w.heap.size (.mk k n s op l p) v:=by
 unfold DvAt at h;obtain ⟨lo,hi,⟨A,c,rfl,h1,h2,h3,h4,h5⟩,_⟩:=h;refine ⟨⟨k,n,⟨s.toArray⟩,op,A,l.length,c,p⟩,rfl,rfl,rfl,rfl,rfl,rfl,?_⟩;refine ⟨rfl,rfl,rfl,rfl,rfl,rfl,h1,h2,?_⟩
 cases o with
 |false=>exact GRow.mono (Nat.zero_le _) h4 h5
 |true =>
  rcases h5 with h5|⟨g,cs,e,a,b,d,h⟩
  ·rw [h5];unfold GRow;trivial
  ·rw [e];exact GRow.mono (Nat.zero_le _) h4 (GWs.grow a b (n_ _) (Nat.le_of_lt b) h)
def aG (pl:Bool) (a b:SyAct):Prop:=a.kind=b.kind/\a.name=b.name/\sm pl (gxO a.value) (gxO b.value)=true/\(pl=true->a.at_=b.at_)
def asG (pl:Bool) (l l':List SyAct):Prop:=l.length=l'.length/\∀(i:Nat) (a b:SyAct),l[i]?=some a->l'[i]?=some b->aG pl a b
end Go.Proofs.YtpgeidpfhakgaaaGreatDoor
namespace Go.Proofs.YtpgeidpfhakgaaaGreatDoor
open Go.RowKit
theorem DvsAt.uncons {w:World} {d:DV} {ds:List DV} {xs:List Value} {F:List Nat} (h:DvsAt w (d::ds) xs F):∃x ys F1 F2,xs=x::ys/\DvAt w d x F1/\DvsAt w ds ys F2:=by
 unfold DvsAt at h;obtain ⟨x,ys,F1,F2,h1,_,h2,h3⟩:=h;exact ⟨x,ys,F1,F2,h1,h2,h3⟩
def mG (pl:Bool) (a b:SyMove):Prop:=a.kind=b.kind/\a.event=b.event/\a.wait=b.wait/\a.guarded=b.guarded/\sm pl (gxO a.guard) (gxO b.guard)=true/\asG pl a.acts b.acts/\a.targets=b.targets/\(pl=true->a.at_=b.at_)
end Go.Proofs.YtpgeidpfhakgaaaGreatDoor
namespace Go.Proofs.YtpgeidpfhakgaaaGreatDoor
open Go.RowKit
theorem DvsAt.elem {α:Type} {f:α->List DV} {k:Nat} (hk:∀a,(f a).length=k) {w:World}:∀{l:List α} {xs:List Value} {F:List Nat},DvsAt w (l.flatMap f) xs F->∀{i:Nat} {a:α},l[i]?=some a->∃ys F',DvsAt w (f a) ys F'/\ys.length=k/\∀j u,ys[j]?=some u->xs[i*k+j]?=some u
 |[],_,_,_,i,a,h=>by simp at h
 |x::l,xs,F,hd,i,a,h=>by
  rw [List.flatMap_cons] at hd;obtain ⟨xs1,xs2,F1,F2,rfl,_,h1,h2⟩:=hd.cut
  have hl:xs1.length=k:=by rw [h1.len];exact hk x
  match i,h with
  |0,h =>
   obtain rfl:x=a:=by simpa using h
   refine ⟨xs1,F1,h1,hl,λ j u hj=>?_⟩;rw [Nat.zero_mul,Nat.zero_add,List.getElem?_append_left (List.getElem?_eq_some_iff.1 hj).1];exact hj
  |i+1,h =>
   obtain ⟨ys,F',h3,h4,h5⟩:=DvsAt.elem hk h2 (i:=i) (a:=a) (by simpa using h);refine ⟨ys,F',h3,h4,λ j u hj=>?_⟩;rw [List.getElem?_append_right (by rw [hl,Nat.succ_mul];omega),hl,Nat.succ_mul,show i*k+k+j-k=i*k+j from by omega];exact h5 j u hj
end Go.Proofs.YtpgeidpfhakgaaaGreatDoor
