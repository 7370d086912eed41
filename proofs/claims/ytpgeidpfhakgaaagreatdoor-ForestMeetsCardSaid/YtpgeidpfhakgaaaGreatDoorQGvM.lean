import Derived.Test.YtpgeidpfhakgaaaGreatDoorQh
import Derived.Test.YtpgeidpfhakgaaaGreatDoorQFoF
import Derived.StillTailTactics
import Derived.Test.YtpgeidpfhakgaaaGreatDoorEB
import Derived.Test.YtpgeidpfhakgaaaGreatDoorQXE
set_option maxHeartbeats 12800000
set_option maxRecDepth 20000
namespace Go.Proofs.YtpgeidpfhakgaaaGreatDoor
open Go.RowKit
theorem layNs_app:∀(l m:List GN) (p d:Int) (a:Nat),layNs (l++m) p d a=layNs l p d a++layNs m p d (a+nNs l)
 |[],m,p,d,a=>by rw [List.nil_append,layNs,List.nil_append,nNs,Nat.add_zero]
 |x::l,m,p,d,a=>by rw [List.cons_append,layNs,layNs_app l m,layNs,nNs,a_,Nat.add_assoc]
theorem nNs_app:∀l m:List GN,nNs (l++m)=nNs l+nNs m
 |[],m=>by rw [List.nil_append,nNs,Nat.zero_add]
 |x::l,m=>by rw [List.cons_append,nNs,nNs_app l m,nNs,Nat.add_assoc]
theorem nNs_take (l:List GN) (i:Nat):nNs (l.take i)<=nNs l:=by
 have h:=nNs_app (l.take i) (l.drop i);rw [List.take_append_drop] at h;omega
theorem depA_at (L M:List Spt) (s:Spt):depA (L++s::M) (L.length:Int)=s.dep+1:=by
 unfold depA;rw [if_neg (by omega),show ((L.length:Int)).toNat=L.length from by omega,List.getElem?_append_right (n_ _),Nat.sub_self];rfl
def ParOk (L:List Spt) (par:Int) (d:Nat):Prop:=par=-1∨∃(p:Nat) (s:Spt),par=(p:Int)/\L[p]?=some s/\-1<=s.dep/\s.dep+d<=100
theorem ParOk.dep {L:List Spt} {par:Int} {d:Nat} (h:ParOk L par d) (hd:d<=50):0<=depA L par/\depA L par+d<=101:=by
 rcases h with rfl|⟨p,s,rfl,hs,h1,h2⟩
 ·unfold depA;rw [if_pos (by decide)];omega
 ·unfold depA;rw [if_neg (by omega),show ((p:Int)).toNat=p from by omega,hs];simp only;omega
def PVis (w0:World) (b d:Nat) (x:GN):Prop:=∀(w:World) (L:List Spt) (v:Value) (par:Int) (xs:List Value),TS w0 w b L v->DxsAt w0 (gNode x) xs->x.rng->ParOk L par d->d<=50->L.length+nN x<=1000000 ->
 Calls Tryz.prog 41 #[.pointer (some ⟨b,0,none⟩),.agg xs.toArray,.int .i64 par] w λ e w'=>e=.returned (.tuple #[])/\∃v',TS w0 w' b (L++layN x par (depA L par) L.length) v'
theorem vis_all (w0:World) (b:Nat):∀(d:Nat) (x:GN),okN d x=true->PVis w0 b d x
 |0,x,ho=>by rw [okN] at ho;cases ho
 |d+1,.mk k nm ini dft en le mo ks q,ho=>by
  intro w L v par xs h hx hr hp hd hL
  have hks:∀(i:Nat) (a:GN),ks[i]?=some a->okN d a=true:=by
   rw [okN,Bool.and_eq_true] at ho;obtain ⟨_,ho⟩:=ho;intro i a ha
   split at ho
   ·simp only [Bool.and_eq_true,List.isEmpty_iff] at ho;rw [ho.2] at ha;simp at ha
   ·simp only [Bool.and_eq_true] at ho;exact okNs_iff.1 ho.2 a (List.mem_of_getElem? ha)
  have HND:=h_ (λ (i:Nat) (a:GN) (ha:ks[i]?=some a)=>vis_all w0 b d a (hks i a ha));clear hks ho;have hdep:=hp.dep hd;obtain ⟨A1,A2,A3,A4,c1,c2,c3,c4,rfl,_,_,_,hkd⟩:=node_v hx;rw [GN.rng] at hr;obtain ⟨hr0,_,_,_,_,_,hrk⟩:=hr;have HRK:=h_ hrk
  obtain ⟨N0,hN0⟩:∃N:ByteArray,(⟨nm.toArray⟩:ByteArray)=N:=⟨_,rfl⟩
  obtain ⟨I0,hI0⟩:=str_of ini;obtain ⟨D0,hD0⟩:=str_of dft
  have eN:txV nm=.string N0:=by rw [<-hN0];rfl
  have hnm:N0.data.toList=nm:=by rw [<-hN0]
  rw [eN,hI0,hD0];rw [nN] at hL
  obtain ⟨W1,hW1⟩:∃W,W=w.alloc (.cells #[.int .i64 k,.string N0,.string I0,.string D0,.slice A1 en.length c1,.slice A2 le.length c2,.slice A3 mo.length c3,.slice A4 ks.length c4,.int .i64 q] 27):=⟨_,rfl⟩
  obtain ⟨g1,hg1⟩:∃g,g=w.heap.size:=⟨_,rfl⟩
  have hal:Below w.heap.size w W1:=by rw [hW1];exact (b_ _ w).alloc (n_ _) _
  have HB1:Hid (CB W1 g1 27 [.int .i64 k,.string N0,.string I0,.string D0,.slice A1 en.length c1,.slice A2 le.length c2,.slice A3 mo.length c3,.slice A4 ks.length c4,.int .i64 q]):=by rw [hW1,hg1];exact CB.new w _ [.int .i64 k,.string N0,.string I0,.string D0,.slice A1 en.length c1,.slice A2 le.length c2,.slice A3 mo.length c3,.slice A4 ks.length c4,.int .i64 q]
  have hT:=h.below hal
  obtain ⟨D,hD⟩:∃D,depA L par=D:=⟨_,rfl⟩
  have HOPN:Hid (Calls Tryz.prog 69 #[.pointer (some ⟨b,0,none⟩),.agg #[.int .i64 k,.string N0,.string I0,.string D0,.slice A1 en.length c1,.slice A2 le.length c2,.slice A3 mo.length c3,.slice A4 ks.length c4,.int .i64 q],.int .i64 par] W1.drew λ e w' =>
    e=.returned (.int .i64 (L.length:Int))/\∃v',Hid (TS w0 w' b (L++[⟨k,nm,par,D,0⟩]) v')/\w'.cell? ⟨g1,7,none⟩=some (.slice A4 ks.length c4)):=by
   have hdr:TS w0 W1.drew b L v:=hT.below ((b_ _ W1).drew);refine (fopen_any w0 W1.drew b L v k q N0 I0 D0 A1 A2 A3 A4 en.length le.length mo.length ks.length c1 c2 c3 c4 par hdr (by rw [<-hN0];simpa [ByteArray.size] using hr0) (by omega) ?_).mono ?_
   ·rcases hp with hp|⟨p,s,e1,e2,e3,e4⟩
    ·exact .inl hp
    ·exact .inr ⟨p,s,e1,e2,e3,by omega⟩
   ·rintro e w' ⟨rfl,v',h1,h2⟩;rw [hnm,hD] at h1;refine ⟨rfl,v',h1,?_⟩;have hlt:=h.c.lt;refine ((HB1.out.drew).ch h2 (λ e=>?_)).c 7 rfl;rcases e with e|e
    ·omega
    ·have:=(World.ownsRow.lt h.r g1 e).2;omega
  rw [hD] at hdep ⊢
  obtain ⟨NK,hNK⟩:∃n,ks.length=n:=⟨_,rfl⟩
  have HNK:Hid (ks.length=NK):=hNK
  have HKS:Hid (DxAt w0 (.row 27 9 ks.length (ks.flatMap gNode)) (.slice A4 ks.length c4)):=by
   show DxAt _ _ _;have:=hkd;unfold gKids at this;rw [gNodes_flat] at this;exact this
  have HMX:Hid (NK<=9223372036854775807):=by
   obtain ⟨_,_,e2,f3,f4⟩:=HKS.out.slice
   have:maxLen<=9223372036854775807:=by decide
   injection e2 with _ _ e2;show _<=_;omega
  have HLL:=h_ hL;have HDD:=h_ hdep;have hd':=h_ hd
  have HLAY:Hid (layN (.mk k nm ini dft en le mo ks q) par D L.length=⟨k,nm,par,D,(L.length:Int)+1+(nNs ks:Nat)⟩::layNs ks (L.length:Int) (D+1) (L.length+1)):=by show _=_;rw [layN]
  rw [hNK] at HOPN ⊢;rw [hNK] at hW1 HB1
  obtain ⟨LN,hLN⟩:∃n,L.length=n:=⟨_,rfl⟩
  have HLN:Hid (L.length=LN):=hLN;rw [hLN] at HOPN HLAY ⊢;have y0:=HB1.out.c 0 rfl;have y1:=HB1.out.c 1 rfl;have y2:=HB1.out.c 2 rfl;have y3:=HB1.out.c 3 rfl;have y4:=HB1.out.c 4 rfl;have y5:=HB1.out.c 5 rfl;have y6:=HB1.out.c 6 rfl;have y7:=HB1.out.c 7 rfl;have y8:=HB1.out.c 8 rfl;clear h hx hr0 hrk hp hd hL hal hT hdep hkd hNK hLN hD hN0 hI0 hD0 eN hnm;go_enter Tryz.func41,Tryz.ntmps41;go_upto_region 1 with fail;rw [<-hW1,<-hg1];clear hW1 hg1
  go_still_tail 5,(by kernel_rfl)
  change wpList _ _ _ _ _ W1.drew;clear y0 y1 y2 y3 y4 y5 y6 y7 y8;go_wp2_with fail;refine HOPN.out.mono ?_;rintro e w2 ⟨rfl,v2,HT2,z7⟩;clear HOPN HB1;go_wp2_with fail;clear z7
  go_loopw [18] (λ iv wr=>∃(i:Nat) (vi:Value),i<=NK/\iv=.int .i64 (i:Int)/\Hid (TS w0 wr b (L++⟨k,nm,par,D,0⟩::layNs (ks.take i) (LN:Int) (D+1) (LN+1)) vi)) (λ iv _=>NK-(intOf iv).toNat)
  case atStart=>exact ⟨0,v2,Nat.zero_le _,rfl,by show TS _ _ _ (_++_::layNs [] _ _ _) _;rw [layNs];exact HT2.out⟩
  case round =>
   obtain ⟨i,vi,hi,rfl,HTI⟩:=hrel;clear HT2
   by_cases him:i<NK
   ·have him':(i:Int)<NK:=by omega
    have HIM:=h_ him
    obtain ⟨a,ha⟩:∃a,ks[i]?=some a:=⟨_,List.getElem?_eq_getElem (by rw [HNK.out];exact him)⟩
    obtain ⟨g,og,c,ys,hv,_,_,hg,hy,_,hyc⟩:=DxAt.elem (f:=gNode) (k:=9) gNode_len (by decide) HKS.out ha
    obtain rfl:A4=some ⟨g,og,none⟩:=by injection hv
    have HNX:Hid (layNs (ks.take (i+1)) (LN:Int) (D+1) (LN+1)=layNs (ks.take i) (LN:Int) (D+1) (LN+1)++layN a (LN:Int) (D+1) (LN+1+nNs (ks.take i))):=by
     show _=_;rw [List.take_add_one,ha,Option.toList,layNs_app,layNs,layNs,List.append_nil]
    have HCM:∀W:World,Below wr.heap.size wr W->Calls Tryz.prog 41 #[.pointer (some ⟨b,0,none⟩),.agg ys.toArray,.int .i64 (LN:Int)] W λ e w'=>e=.returned (.tuple #[])/\∃v',Hid (TS w0 w' b (L++⟨k,nm,par,D,0⟩::layNs (ks.take (i+1)) (LN:Int) (D+1) (LN+1)) v'):=λ W hb=>by
     have hdep:=HDD.out;have hd:=hd'.out;have hLL:=HLL.out;have hln:=HLN.out
     have hsum:nNs (ks.take i)+nN a<=nNs ks:=by
      have h1:=nNs_app (ks.take i) [a];have h2:=nNs_take ks (i+1);rw [List.take_add_one,ha,Option.toList] at h2;rw [nNs,nNs] at h1;omega
     have hdA:depA (L++⟨k,nm,par,D,0⟩::layNs (ks.take i) (LN:Int) (D+1) (LN+1)) (LN:Int)=D+1:=by
      rw [<-hln];exact depA_at L _ _
     have hlen:(L++⟨k,nm,par,D,0⟩::layNs (ks.take i) (LN:Int) (D+1) (LN+1)).length=LN+1+nNs (ks.take i):=by
      rw [List.length_append,List.length_cons,layNs_len];omega
     have:=HND.out i a ha W _ vi (LN:Int) ys (HTI.out.below hb) hy (GN.rngs_iff.1 HRK.out a (List.mem_of_getElem? ha)) (.inr ⟨LN,⟨k,nm,par,D,0⟩,rfl,by rw [<-hln,List.getElem?_append_right (n_ _),Nat.sub_self];rfl,by simp only;omega,by simp only;omega⟩) (by omega) (by rw [hlen];omega);refine this.mono ?_;rintro e w' ⟨rfl,v',h1⟩;rw [hdA,hlen,a_,List.cons_append,<-HNX.out] at h1;exact ⟨rfl,v',h1⟩
    obtain ⟨ka,na,ia,da,ea,la,ma,sa,pa⟩:=a;obtain ⟨E1,E2,E3,E4,e1,e2,e3,e4,rfl,_⟩:=node_v hy;obtain ⟨P1,hP1⟩:=str_of na;obtain ⟨P2,hP2⟩:=str_of ia;obtain ⟨P3,hP3⟩:=str_of da;rw [hP1,hP2,hP3] at HCM hyc
    have kb:∀{p:Addr} {u:Value},w0.cell? p=some u->wr.cell? p=some u:=λ hc=>by rw [World.cell?_of_block (HTI.out.bl.block _ (World.block_lt_of_cell? w0 _ hc))];exact hc
    have u0:wr.cell? ⟨g,og+i*9,none⟩=_:=kb (hyc 0 _ rfl);have u1:=kb (hyc 1 _ rfl);have u2:=kb (hyc 2 _ rfl);have u3:=kb (hyc 3 _ rfl);have u4:=kb (hyc 4 _ rfl);have u5:=kb (hyc 5 _ rfl);have u6:=kb (hyc 6 _ rfl);have u7:=kb (hyc 7 _ rfl);have u8:=kb (hyc 8 _ rfl)
    obtain ⟨W5,hW5⟩:∃W,W=wr.alloc (.cells #[.int .i64 ka,.string P1,.string P2,.string P3,.slice E1 ea.length e1,.slice E2 la.length e2,.slice E3 ma.length e3,.slice E4 sa.length e4,.int .i64 pa] 27):=⟨_,rfl⟩
    obtain ⟨g5,hg5⟩:∃g,g=wr.heap.size:=⟨_,rfl⟩
    have hal5:Below wr.heap.size wr W5:=by rw [hW5];exact (b_ _ wr).alloc (n_ _) _
    have HB5:Hid (CB W5 g5 27 [.int .i64 ka,.string P1,.string P2,.string P3,.slice E1 ea.length e1,.slice E2 la.length e2,.slice E3 ma.length e3,.slice E4 sa.length e4,.int .i64 pa]):=by rw [hW5,hg5];exact CB.new wr _ [.int .i64 ka,.string P1,.string P2,.string P3,.slice E1 ea.length e1,.slice E2 la.length e2,.slice E3 ma.length e3,.slice E4 sa.length e4,.int .i64 pa]
    have HCC:=h_ (HCM W5 hal5);clear ha hv hg hy hyc kb hal5 HCM hP1 hP2 hP3 HTI him hi HNX;go_upto_region 5 with fail;rw [<-hW5,<-hg5];clear hW5 hg5 u0 u1 u2 u3 u4 u5 u6 u7 u8;have z0:=HB5.out.c 0 rfl;have z1:=HB5.out.c 1 rfl;have z2:=HB5.out.c 2 rfl;have z3:=HB5.out.c 3 rfl;have z4:=HB5.out.c 4 rfl;have z5:=HB5.out.c 5 rfl;have z6:=HB5.out.c 6 rfl;have z7:=HB5.out.c 7 rfl;have z8:=HB5.out.c 8 rfl;go_wp2_with fail;refine HCC.out.mono ?_;rintro e w3 ⟨rfl,v3,HT3⟩;clear z0 z1 z2 z3 z4 z5 z6 z7 z8 HB5 HCC;go_wp2_with fail;exact ⟨⟨i+1,v3,by have:=HIM.out;omega,by have h1:=HIM.out;have h2:=HMX.out;rw [Go.IntWalk.wrap64_in _ ⟨by omega,by omega⟩];rfl,HT3⟩,by have h1:=HIM.out;have h2:=HMX.out;rw [Go.IntWalk.wrap64_in _ ⟨by omega,by omega⟩];simp [intOf];omega⟩
   ·have him':¬(i:Int)<NK:=by omega
    have hTI:=HTI.out;rw [List.take_of_length_le (by rw [HNK.out];omega)] at hTI;have hln:=HLN.out;have hLL:=HLL.out;have hC:=fclose_any w0 wr b _ vi LN hTI (by rw [List.length_append,List.length_cons];omega) (by rw [List.length_append,List.length_cons,layNs_len];omega)
    have hsf:setFin (L++⟨k,nm,par,D,0⟩::layNs ks (LN:Int) (D+1) (LN+1)) LN=L++layN (.mk k nm ini dft en le mo ks q) par D LN:=by
     have h1:=setFin_app L (layNs ks (LN:Int) (D+1) (LN+1)) ⟨k,nm,par,D,0⟩;rw [hln] at h1;rw [h1,HLAY.out,layNs_len];simp only
     congr 3
    rw [hsf] at hC;have HC:=h_ hC;have y0:=hTI.c.c 0 rfl;clear hTI hC hsf hln hLL him hi HTI HLAY;go_wp2_with fail;refine HC.out.mono ?_;rintro e w3 ⟨rfl,hT3⟩;have HT3:=h_ hT3;clear hT3 HC y0;go_wp2_with fail;go_end0;exact ⟨rfl,_,HT3.out⟩
theorem Mv.of_below {w w':World} (b:Nat) (h:Below w.heap.size w w'):Mv b w w':=⟨h.os,h.tape,h.output,h.size,λ _ hk _=>h.block _ hk⟩
def KS (w0 w:World) (b lvl:Nat) (s:Nat×Nat×Nat):Prop:=Below w0.heap.size w0 w/\CB w b 105 [.int .i64 (s.1:Int),.int .i64 (s.2.1:Int),.int .i64 (s.2.2:Int),.int .i64 (lvl:Int)]
theorem KS.below {w0 w w':World} {b lvl:Nat} {s:Nat×Nat×Nat} (h:KS w0 w b lvl s) (hb:Below w.heap.size w w'):KS w0 w' b lvl s:=⟨h.1.trans (hb.mono h.1.size),h.2.below hb⟩
def foldS {σ α:Type} (step:σ->α->Bool×σ):σ->List α->Bool×σ
 |s,[]=>(true,s)
 |s,a::l=>if (step s a).1=true then foldS step (step s a).2 l else (false,(step s a).2)
def blkC (s:Nat×Nat×Nat) (l:List GA):Bool×(Nat×Nat×Nat):=(decide (s.2.2+l.length<=400)&&l.all okA,(s.1,s.2.1,s.2.2+l.length))
def mvS (s:Nat×Nat×Nat) (m:GM):Bool×(Nat×Nat×Nat):=if (trig m&&grd m)=true then ((blkC s m.acts).1&&m.targets.all isNm,(blkC s m.acts).2) else (false,s)
def hdS (s:Nat×Nat×Nat) (ini:List UInt8) (en le:List GA) (mo:List GM):Bool×(Nat×Nat×Nat) :=
 if (ini.isEmpty || isNm ini)=true then
  if (blkC s en).1=true then
   if (blkC (blkC s en).2 le).1=true then
    if (blkC (blkC s en).2 le).2.2.1+mo.length<=200 then foldS mvS ((blkC (blkC s en).2 le).2.1,(blkC (blkC s en).2 le).2.2.1+mo.length,(blkC (blkC s en).2 le).2.2.2) mo
    else (false,((blkC (blkC s en).2 le).2.1,(blkC (blkC s en).2 le).2.2.1+mo.length,(blkC (blkC s en).2 le).2.2.2))
   else (false,(blkC (blkC s en).2 le).2)
  else (false,(blkC s en).2)
 else (false,s)
mutual
def ndS (lvl:Nat) (s:Nat×Nat×Nat):GN->Bool×(Nat×Nat×Nat)
 |.mk k nm ini dft en le mo ks _ =>
  if (decide (s.1+1<=64)&&decide (lvl<12)&&isNm nm)=true then
   if k=1∨k=2 then
    if dft.isEmpty=true then
     if (hdS (s.1+1,s.2) ini en le mo).1=true then ndsS (lvl+1) (hdS (s.1+1,s.2) ini en le mo).2 ks else (false,(hdS (s.1+1,s.2) ini en le mo).2)
    else (false,(s.1+1,s.2))
   else if k=3∨k=4 then (isNm dft&&(ini.isEmpty&&en.isEmpty&&le.isEmpty&&mo.isEmpty&&ks.isEmpty),(s.1+1,s.2))
   else (false,(s.1+1,s.2))
  else (false,(s.1+1,s.2))
def ndsS (lvl:Nat) (s:Nat×Nat×Nat):List GN->Bool×(Nat×Nat×Nat)
 |[]=>(true,s)
 |x::l=>if (ndS lvl s x).1=true then ndsS lvl (ndS lvl s x).2 l else (false,(ndS lvl s x).2)
end
theorem ndsS_fold (lvl:Nat):∀(l:List GN) (s:Nat×Nat×Nat),ndsS lvl s l=foldS (ndS lvl) s l
 |[],s=>by rw [ndsS];rfl
 |x::l,s=>by
  rw [ndsS,foldS,ndsS_fold lvl l]
def Rm (s:Nat×Nat×Nat):Prop:=s.1<=64/\s.2.1<=200/\s.2.2<=400
theorem blkC_spec (s:Nat×Nat×Nat) (l:List GA) (hs:Rm s):((blkC s l).1=true->Rm (blkC s l).2/\l.all okA=true/\(blkC s l).2=(s.1,s.2.1,s.2.2+l.length))/\(l.all okA=true->s.2.2+l.length<=400->(blkC s l).1=true):=by
 unfold blkC;simp only [Bool.and_eq_true,decide_eq_true_eq];exact ⟨λ h=>⟨⟨hs.1,hs.2.1,h.1⟩,h.2,trivial⟩,λ h1 h2=>⟨h2,h1⟩⟩
theorem mvS_spec (s:Nat×Nat×Nat) (m:GM) (hs:Rm s):((mvS s m).1=true->Rm (mvS s m).2/\okM m=true/\(mvS s m).2=(s.1,s.2.1,s.2.2+m.acts.length))/\(okM m=true->s.2.2+m.acts.length<=400->(mvS s m).1=true):=by
 obtain ⟨h1,h2⟩:=blkC_spec s m.acts hs;unfold mvS okM
 cases ht:(trig m&&grd m) with
 |false =>
  rw [if_neg (by decide)];exact ⟨λ h=>(by cases h),λ h=>(by simp at h)⟩
 |true =>
  rw [if_pos rfl];simp only [Bool.and_eq_true,Bool.true_and];exact ⟨λ h=>⟨(h1 h.1).1,⟨(h1 h.1).2.1,h.2⟩,(h1 h.1).2.2⟩,λ h hl=>⟨h2 h.1 hl,h.2⟩⟩
theorem mvsS_spec:∀(l:List GM) (s:Nat×Nat×Nat),Rm s->((foldS mvS s l).1=true->Rm (foldS mvS s l).2/\l.all okM=true/\(foldS mvS s l).2=(s.1,s.2.1,s.2.2+mvG l))/\(l.all okM=true->s.2.2+mvG l<=400->(foldS mvS s l).1=true)
 |[],s,hs=>⟨λ _=>⟨hs,rfl,rfl⟩,λ _ _=>rfl⟩
 |m::l,s,hs=>by
  obtain ⟨h1,h2⟩:=mvS_spec s m hs;rw [foldS]
  by_cases c:(mvS s m).1=true
  ·rw [if_pos c];obtain ⟨h3,h4,h5⟩:=h1 c;obtain ⟨h6,h7⟩:=mvsS_spec l (mvS s m).2 h3;rw [h5] at h6 h7 ⊢;rw [List.all_cons,h4,Bool.true_and];unfold mvG;refine ⟨λ h=>?_,λ h hl=>h7 h (by show s.2.2+m.acts.length+mvG l<=400;omega)⟩;obtain ⟨a1,a2,a3⟩:=h6 h;exact ⟨a1,a2,by rw [a3,Nat.add_assoc]⟩
  ·rw [if_neg c];refine ⟨λ h=>(by cases h),λ h hl=>?_⟩;rw [List.all_cons,Bool.and_eq_true] at h;unfold mvG at hl;exact absurd (h2 h.1 (by omega)) c
theorem hdS_spec (s:Nat×Nat×Nat) (ini:List UInt8) (en le:List GA) (mo:List GM) (hs:Rm s) :
  ((hdS s ini en le mo).1=true->Rm (hdS s ini en le mo).2/\((ini.isEmpty || isNm ini)=true/\en.all okA=true/\le.all okA=true/\mo.all okM=true)/\(hdS s ini en le mo).2=(s.1,s.2.1+mo.length,s.2.2+(en.length+le.length+mvG mo))) /\
  ((ini.isEmpty || isNm ini)=true->en.all okA=true->le.all okA=true->mo.all okM=true->s.2.1+mo.length<=200->s.2.2+(en.length+le.length+mvG mo)<=400->(hdS s ini en le mo).1=true):=by
 unfold hdS
 cases c0:(ini.isEmpty || isNm ini) with
 |false=>rw [if_neg (by decide)];exact ⟨λ h=>(by cases h),λ h=>(by cases h)⟩
 |true =>
  rw [if_pos rfl];obtain ⟨e1,e2⟩:=blkC_spec s en hs
  by_cases c1:(blkC s en).1=true
  ·rw [if_pos c1];obtain ⟨e3,e4,e5⟩:=e1 c1;obtain ⟨l1,l2⟩:=blkC_spec (blkC s en).2 le e3
   by_cases c2:(blkC (blkC s en).2 le).1=true
   ·rw [if_pos c2];obtain ⟨l3,l4,l5⟩:=l1 c2;rw [l5,e5];rw [l5,e5] at l3;simp only
    by_cases c3:s.2.1+mo.length<=200
    ·rw [if_pos c3];obtain ⟨m1,m2⟩:=mvsS_spec mo (s.1,s.2.1+mo.length,s.2.2+en.length+le.length) ⟨l3.1,c3,l3.2.2⟩;refine ⟨λ h=>?_,λ _ _ _ h4 _ h6=>m2 h4 (by show s.2.2+en.length+le.length+mvG mo<=400;omega)⟩;obtain ⟨a1,a2,a3⟩:=m1 h;exact ⟨a1,⟨trivial,e4,l4,a2⟩,by rw [a3];simp only [Prod.mk.injEq,true_and];omega⟩
    ·rw [if_neg c3];exact ⟨λ h=>(by cases h),λ _ _ _ _ h=>absurd h c3⟩
   ·rw [if_neg c2];refine ⟨λ h=>(by cases h),λ _ _ h3 _ _ h6=>absurd (l2 h3 ?_) c2⟩;rw [e5];show s.2.2+en.length+le.length<=400;omega
  ·rw [if_neg c1];exact ⟨λ h=>(by cases h),λ _ h2 _ _ _ h6=>absurd (e2 h2 (by omega)) c1⟩
mutual
theorem ndS_spec:∀(x:GN) (lvl:Nat) (s:Nat×Nat×Nat),Rm s->((ndS lvl s x).1=true->Rm (ndS lvl s x).2/\okN (12-lvl) x=true/\(ndS lvl s x).2=(s.1+nN x,s.2.1+nM x,s.2.2+nA x))/\(okN (12-lvl) x=true->s.1+nN x<=64->s.2.1+nM x<=200->s.2.2+nA x<=400->(ndS lvl s x).1=true)
 |.mk k nm ini dft en le mo ks p,lvl,s,hs=>by
  rw [ndS,nN,nM,nA]
  by_cases c0:(decide (s.1+1<=64)&&decide (lvl<12)&&isNm nm)=true
  ·rw [if_pos c0];simp only [Bool.and_eq_true,decide_eq_true_eq] at c0;obtain ⟨⟨c1,c2⟩,c3⟩:=c0
   obtain ⟨d,hd⟩:∃d,12-lvl=d+1:=⟨11-lvl,by omega⟩
   have hd':12-(lvl+1)=d:=by omega
   rw [hd,okN,c3,Bool.true_and]
   have hs':Rm (s.1+1,s.2):=⟨c1,hs.2.1,hs.2.2⟩
   by_cases hk:k=1∨k=2
   ·rw [if_pos hk,if_neg (c:=k=3∨k=4) (by omega),decide_eq_true hk,Bool.true_and]
    by_cases hdf:dft.isEmpty=true
    ·rw [if_pos hdf,hdf,Bool.true_and];obtain ⟨h1,h2⟩:=hdS_spec (s.1+1,s.2) ini en le mo hs'
     by_cases c4:(hdS (s.1+1,s.2) ini en le mo).1=true
     ·rw [if_pos c4];obtain ⟨h3,⟨h4,h5,h6,h7⟩,h8⟩:=h1 c4;obtain ⟨k1,k2⟩:=ndsS_spec ks (lvl+1) (hdS (s.1+1,s.2) ini en le mo).2 h3;rw [h8] at k1 k2 ⊢;rw [hd'] at k1 k2;rw [h4,h5,h6,h7];simp only [Bool.true_and] at k1 k2 ⊢;refine ⟨λ h=>?_,λ ha hb hc hdd=>k2 ha (by omega) (by omega) (by omega)⟩;obtain ⟨a1,a2,a3⟩:=k1 h;exact ⟨a1,a2,by rw [a3];simp only [Prod.mk.injEq];omega⟩
     ·rw [if_neg c4];refine ⟨λ h=>(by cases h),λ ha hb hc hdd=>?_⟩;simp only [Bool.and_eq_true] at ha;obtain ⟨⟨⟨⟨a1,a2⟩,a3⟩,a4⟩,_⟩:=ha;exact absurd (h2 a1 a2 a3 a4 (by show s.2.1+mo.length<=200;omega) (by show s.2.2+(en.length+le.length+mvG mo)<=400;omega)) c4
    ·rw [if_neg hdf];refine ⟨λ h=>(by cases h),λ ha=>?_⟩;rw [show dft.isEmpty=false from by simpa using hdf] at ha;simp at ha
   ·rw [if_neg hk]
    by_cases hk3:k=3∨k=4
    ·rw [if_pos hk3,if_pos hk3];simp only [Bool.and_eq_true,List.isEmpty_iff];refine ⟨λ h=>?_,λ h _ _ _=>?_⟩
     ·obtain ⟨a1,⟨⟨⟨a2,a3⟩,a4⟩,a5⟩,a6⟩:=h;subst a2 a3 a4 a5 a6;exact ⟨hs',⟨⟨⟨⟨⟨a1,rfl⟩,rfl⟩,rfl⟩,rfl⟩,rfl⟩,by rw [nNs,nMs,nAs];rfl⟩
     ·obtain ⟨⟨⟨⟨⟨a1,a2⟩,a3⟩,a4⟩,a5⟩,a6⟩:=h;exact ⟨a1,⟨⟨⟨a2,a3⟩,a4⟩,a5⟩,a6⟩
    ·rw [if_neg hk3,if_neg hk3];refine ⟨λ h=>(by cases h),λ ha=>?_⟩;rw [decide_eq_false hk] at ha;simp at ha
  ·rw [if_neg c0];refine ⟨λ h=>(by cases h),λ ha hb hc hd=>absurd ?_ c0⟩;simp only [Bool.and_eq_true,decide_eq_true_eq]
   by_cases hl:lvl<12
   ·obtain ⟨d,hdd⟩:∃d,12-lvl=d+1:=⟨11-lvl,by omega⟩
    rw [hdd,okN,Bool.and_eq_true] at ha;exact ⟨⟨by omega,hl⟩,ha.1⟩
   ·rw [show 12-lvl=0 from by omega,okN] at ha;cases ha
theorem ndsS_spec:∀(l:List GN) (lvl:Nat) (s:Nat×Nat×Nat),Rm s->((ndsS lvl s l).1=true->Rm (ndsS lvl s l).2/\okNs (12-lvl) l=true/\(ndsS lvl s l).2=(s.1+nNs l,s.2.1+nMs l,s.2.2+nAs l))/\(okNs (12-lvl) l=true->s.1+nNs l<=64->s.2.1+nMs l<=200->s.2.2+nAs l<=400->(ndsS lvl s l).1=true)
 |[],lvl,s,hs=>by
  rw [ndsS,okNs,nNs,nMs,nAs];exact ⟨λ _=>⟨hs,rfl,rfl⟩,λ _ _ _ _=>rfl⟩
 |x::l,lvl,s,hs=>by
  obtain ⟨h1,h2⟩:=ndS_spec x lvl s hs;rw [ndsS,okNs,nNs,nMs,nAs]
  by_cases c:(ndS lvl s x).1=true
  ·rw [if_pos c];obtain ⟨h3,h4,h5⟩:=h1 c;obtain ⟨h6,h7⟩:=ndsS_spec l lvl (ndS lvl s x).2 h3;rw [h5] at h6 h7 ⊢;rw [h4,Bool.true_and];simp only at h6 h7 ⊢;refine ⟨λ h=>?_,λ ha hb hc hd=>h7 ha (by omega) (by omega) (by omega)⟩;obtain ⟨a1,a2,a3⟩:=h6 h;exact ⟨a1,a2,by rw [a3];simp only [Prod.mk.injEq];omega⟩
  ·rw [if_neg c];refine ⟨λ h=>(by cases h),λ ha hb hc hd=>?_⟩;rw [Bool.and_eq_true] at ha;exact absurd (h2 ha.1 (by omega) (by omega) (by omega)) c
end
theorem okC_of (c:GC):okC c=(decide (c.vars.length<=16)&&c.vars.all okV&&decide (c.root.kind=1)&&(ndS 0 (0,0,0) c.root).1):=by
 obtain ⟨h1,h2⟩:=ndS_spec c.root 0 (0,0,0) ⟨by decide,by decide,by decide⟩;unfold okC
 cases hx:(ndS 0 (0,0,0) c.root).1 with
 |true =>
  obtain ⟨h3,h4,h5⟩:=h1 hx;rw [h5] at h3
  have e1:nN c.root<=64:=by have:=h3.1;simpa using this
  have e2:nM c.root<=200:=by have:=h3.2.1;simpa using this
  have e3:nA c.root<=400:=by have:=h3.2.2;simpa using this
  rw [show okN 12 c.root=true from h4,decide_eq_true e1,decide_eq_true e2,decide_eq_true e3];simp
 |false =>
  have:(okN 12 c.root&&decide (nN c.root<=64)&&decide (nM c.root<=200)&&decide (nA c.root<=400))=false:=by
   rw [Bool.eq_false_iff];intro h;simp only [Bool.and_eq_true,decide_eq_true_eq] at h;have:=h2 h.1.1.1 (by simpa using h.1.1.2) (by simpa using h.1.2) (by simpa using h.2);rw [hx] at this;cases this
  rw [Bool.and_false];rw [Bool.eq_false_iff] at this ⊢;intro h;apply this;simp only [Bool.and_eq_true] at h ⊢;exact ⟨⟨⟨h.1.1.1.2,h.1.1.2⟩,h.1.2⟩,h.2⟩
theorem notV_any (w:World) (S:ByteArray) (p q:Int) (h:Nat) (r:Bool) (hc:w.cell? ⟨h,0,none⟩=some (.func (.func 53) #[] #[])) (hh:h<w.heap.size)
  (HF:Hid (∀W,Below w.heap.size w W->Calls Tryz.prog 53 #[.agg #[.string S,.int .i64 p,.int .i64 q]] W λ e w'=>e=.returned (.bool r)/\Below W.heap.size W w')) :
  Calls Tryz.prog 85 #[.agg #[.string S,.int .i64 p,.int .i64 q],.pointer (some ⟨h,0,none⟩)] w λ e w'=>e=.returned (.bool (!r))/\Below w.heap.size w w':=by
 obtain ⟨W0,hW0⟩:∃W,W=w.alloc (.cells #[.string S,.int .i64 p,.int .i64 q] 74):=⟨_,rfl⟩
 obtain ⟨g0,hg0⟩:∃g,g=w.heap.size:=⟨_,rfl⟩
 have HB:Hid (Below w.heap.size w W0):=by rw [hW0];exact (b_ _ w).alloc (n_ _) _
 have HX:Hid (CB W0 g0 74 [.string S,.int .i64 p,.int .i64 q]):=by rw [hW0,hg0];exact CB.new w _ [.string S,.int .i64 p,.int .i64 q]
 have c0:W0.cell? ⟨h,0,none⟩=some (.func (.func 53) #[] #[]):=by rw [World.cell?_of_block (HB.out.block h hh)];exact hc
 have HC:=h_ (HF.out W0 HB.out);have z0:=HX.out.c 0 rfl;have z1:=HX.out.c 1 rfl;have z2:=HX.out.c 2 rfl;clear hc hh HF;go_enter Tryz.func85,Tryz.ntmps85;go_upto_region 1 with fail;rw [<-hW0,<-hg0];clear hW0 hg0;go_wp2_with fail;refine HC.out.mono ?_;rintro e w2 ⟨rfl,hb⟩;have HB2:=h_ (HB.out.trans (hb.mono HB.out.size));clear hb HC HX z0 z1 z2 c0;go_wp2_with fail;go_ret;exact ⟨rfl,HB2.out⟩
def allWV (w:World) (l:List SyVar) (v:Value):Prop:=∀(i:Nat) (a:SyVar),l[i]?=some a->∃(g og c:Nat) (_:Unit),v=.slice (some ⟨g,og,none⟩) l.length c/\g<w.heap.size/\w.cell? ⟨g,og+i*3,none⟩=some (txV a.name)/\w.cell? ⟨g,og+i*3+1,none⟩=some (.int .i64 a.num)/\w.cell? ⟨g,og+i*3+2,none⟩=some (.int .i64 a.at_) /\
 ∀W,Below w.heap.size w W->Calls Tryz.prog 53 #[.agg #[txV a.name,.int .i64 a.num,.int .i64 a.at_]] W λ e w'=>e=.returned (.bool (okV a))/\Below W.heap.size W w'
theorem firstV_any (w0 w:World) (l:List SyVar) (A:Option Addr) (c h n:Nat) (hn:l.length=n) (hm:n<=9223372036854775807) (H0:Hid (allWV w0 l (.slice A n c))) (hb0:Below w0.heap.size w0 w) (hc:w.cell? ⟨h,0,none⟩=some (.func (.func 53) #[] #[])) (hh:h<w.heap.size) :
  Calls Tryz.prog 122 #[.slice A n c,.func (.func 85) #[] #[.pointer (some ⟨h,0,none⟩)]] w λ e w'=>∃r:Int,e=.returned (.int .i64 r)/\decide (0<=r)=!(l.all okV)/\Below w.heap.size w w':=by
 have HN:=h_ hn;have HM:=h_ hm;have HB0:=h_ hb0;have HC0:=h_ (And.intro hc hh);clear hn hm hb0 hc hh;go_enter Tryz.func122,Tryz.ntmps122;go_wp2_with fail
 go_loopw [8] (λ iv wr=>∃i:Nat,i<=n/\iv=.int .i64 (i:Int)/\Hid ((l.take i).all okV=true)/\Hid (Below w.heap.size w wr)) (λ iv _=>n-(intOf iv).toNat)
 case atStart=>exact ⟨0,Nat.zero_le _,rfl,rfl,b_ _ w⟩
 case round =>
  obtain ⟨i,hi,rfl,HT,HBW⟩:=hrel
  by_cases him:i<n
  ·have him':(i:Int)<n:=by omega
   have HIM:=h_ him
   obtain ⟨a,ha⟩:∃a,l[i]?=some a:=⟨_,List.getElem?_eq_getElem (by rw [HN.out];exact him)⟩
   have hyc:=H0.out i a ha;rw [HN.out] at hyc;obtain ⟨g,og,c',_,hv,hg,y0,y1,y2,hcall⟩:=hyc
   obtain rfl:A=some ⟨g,og,none⟩:=by injection hv
   have hbw:Below w0.heap.size w0 wr:=HB0.out.trans (HBW.out.mono HB0.out.size)
   have kb:∀{p:Addr} {u:Value},w0.cell? p=some u->wr.cell? p=some u:=λ hc=>by rw [World.cell?_of_block (hbw.block _ (World.block_lt_of_cell? w0 _ hc))];exact hc
   have u0:=kb y0;have u1:=kb y1;have u2:=kb y2;have HCL:=h_ (notV_any wr ⟨a.name.toArray⟩ a.num a.at_ h (okV a) (by rw [World.cell?_of_block (HBW.out.block h HC0.out.2)];exact HC0.out.1) (Nat.lt_of_lt_of_le HC0.out.2 HBW.out.size) (λ W hb=>hcall W (hbw.trans (hb.mono hbw.size))))
   obtain ⟨r,hr⟩:∃r,okV a=r:=⟨_,rfl⟩
   rw [hr] at HCL;have HAR:=h_ (And.intro ha hr);clear ha hr hv hg hcall hbw kb y0 y1 y2;cases r
   ·go_wp2_with fail;refine HCL.out.mono ?_;rintro e w2 ⟨rfl,hb⟩;have HB2:=h_ (HBW.out.trans (hb.mono HBW.out.size));clear hb HCL u0 u1 u2 HBW;go_wp2_with fail;go_ret;refine ⟨_,rfl,?_,HB2.out⟩
    have hf:l.all okV=false:=by
     rw [List.all_eq_false];exact ⟨a,List.mem_of_getElem? HAR.out.1,by rw [HAR.out.2];decide⟩
    rw [hf];simp
   ·go_wp2_with fail;refine HCL.out.mono ?_;rintro e w2 ⟨rfl,hb⟩;have HB2:=h_ (HBW.out.trans (hb.mono HBW.out.size));clear hb HCL u0 u1 u2 HBW;go_wp2_with fail
    go_roundw
    case rel =>
     refine ⟨i+1,by have:=HIM.out;omega,by have h1:=HIM.out;have h2:=HM.out;rw [Go.IntWalk.wrap64_in _ ⟨by omega,by omega⟩];rfl,?_,HB2⟩;show (l.take (i+1)).all okV=true;rw [List.take_add_one,HAR.out.1,List.all_append,HT.out];simp [HAR.out.2]
    case measure=>have h1:=HIM.out;have h2:=HM.out;rw [Go.IntWalk.wrap64_in _ ⟨by omega,by omega⟩];simp [intOf];omega
  ·have him':¬(i:Int)<n:=by omega
   have HALL:Hid (l.all okV=true):=by
    have:=HT.out;rw [List.take_of_length_le (by rw [HN.out];omega)] at this;exact this
   clear hi;go_wp2_with fail;go_ret;exact ⟨_,rfl,by rw [HALL.out];rfl,HBW.out⟩
theorem contV_any (w0 w:World) (l:List SyVar) (A:Option Addr) (c h n:Nat) (R:Bool) (hR:l.all okV=R) (hn:l.length=n) (hm:n<=9223372036854775807) (H0:Hid (allWV w0 l (.slice A n c))) (hb0:Below w0.heap.size w0 w) (hc:w.cell? ⟨h,0,none⟩=some (.func (.func 53) #[] #[])) (hh:h<w.heap.size) :
  Calls Tryz.prog 84 #[.slice A n c,.func (.func 85) #[] #[.pointer (some ⟨h,0,none⟩)]] w λ e w'=>e=.returned (.bool (!R))/\Below w.heap.size w w':=by
 have HC:=h_ (firstV_any w0 w l A c h n hn hm H0 hb0 hc hh);rw [hR] at HC;clear hn hm H0 hb0 hc hh hR;go_enter Tryz.func84,Tryz.ntmps84;go_wp2_with fail;refine HC.out.mono ?_;rintro e w2 ⟨r,rfl,hr,hb⟩;have HB2:=h_ hb;have HR2:=h_ hr;clear hb hr HC;go_wp2_with fail;go_ret;refine ⟨?_,HB2.out⟩;rw [<-HR2.out];rfl
theorem everyV_any (w:World) (l:List SyVar) (A:Option Addr) (c n:Nat) (hn:l.length=n) (hm:n<=9223372036854775807) (H0:Hid (allWV w l (.slice A n c))) :
  Calls Tryz.prog 52 #[.slice A n c,.func (.func 53) #[] #[]] w λ e w'=>e=.returned (.bool (l.all okV))/\Below w.heap.size w w':=by
 obtain ⟨W0,hW0⟩:∃W,W=w.alloc (.cells #[.func (.func 53) #[] #[]] 102):=⟨_,rfl⟩
 obtain ⟨g0,hg0⟩:∃g,g=w.heap.size:=⟨_,rfl⟩
 have HB:Hid (Below w.heap.size w W0):=by rw [hW0];exact (b_ _ w).alloc (n_ _) _
 have HX:Hid (CB W0 g0 102 [.func (.func 53) #[] #[]]):=by rw [hW0,hg0];exact CB.new w _ [.func (.func 53) #[] #[]]
 obtain ⟨R,hR⟩:∃R,l.all okV=R:=⟨_,rfl⟩
 have HC:=h_ (contV_any w W0 l A c g0 n R hR hn hm H0 HB.out (HX.out.c 0 rfl) HX.out.lt);rw [hR];clear hn hm H0 hR HX;go_enter Tryz.func52,Tryz.ntmps52;go_upto_region 1 with fail;rw [<-hW0,<-hg0];clear hW0 hg0;go_wp2_with fail;refine HC.out.mono ?_;rintro e w2 ⟨rfl,hb⟩;have HB2:=h_ (HB.out.trans (hb.mono HB.out.size));clear hb HC;go_wp2_with fail;go_ret;exact ⟨by cases R <;> rfl,HB2.out⟩
theorem notA_any (w:World) (k q:Int) (S:ByteArray) (ev:EV) (h:Nat) (r:Bool) (hc:w.cell? ⟨h,0,none⟩=some (.func (.func 160) #[] #[])) (hh:h<w.heap.size)
  (HF:Hid (∀W,Below w.heap.size w W->Calls Tryz.prog 160 #[.agg #[.int .i64 k,.string S,.int .i64 ev.kind,.int .i64 ev.num,.string ev.name,.int .i64 ev.op,.slice ev.A ev.len ev.cap,.int .i64 ev.p,.int .i64 q]] W λ e w'=>e=.returned (.bool r)/\Below W.heap.size W w')) :
  Calls Tryz.prog 193 #[.agg #[.int .i64 k,.string S,.int .i64 ev.kind,.int .i64 ev.num,.string ev.name,.int .i64 ev.op,.slice ev.A ev.len ev.cap,.int .i64 ev.p,.int .i64 q],.pointer (some ⟨h,0,none⟩)] w λ e w'=>e=.returned (.bool (!r))/\Below w.heap.size w w':=by
 obtain ⟨W0,hW0⟩:∃W,W=w.alloc (.cells #[.int .i64 k,.string S,.int .i64 ev.kind,.int .i64 ev.num,.string ev.name,.int .i64 ev.op,.slice ev.A ev.len ev.cap,.int .i64 ev.p,.int .i64 q] 145):=⟨_,rfl⟩
 obtain ⟨g0,hg0⟩:∃g,g=w.heap.size:=⟨_,rfl⟩
 have HB:Hid (Below w.heap.size w W0):=by rw [hW0];exact (b_ _ w).alloc (n_ _) _
 have HX:Hid (CB W0 g0 145 [.int .i64 k,.string S,.int .i64 ev.kind,.int .i64 ev.num,.string ev.name,.int .i64 ev.op,.slice ev.A ev.len ev.cap,.int .i64 ev.p,.int .i64 q]):=by rw [hW0,hg0];exact CB.new w _ [.int .i64 k,.string S,.int .i64 ev.kind,.int .i64 ev.num,.string ev.name,.int .i64 ev.op,.slice ev.A ev.len ev.cap,.int .i64 ev.p,.int .i64 q]
 have c0:W0.cell? ⟨h,0,none⟩=some (.func (.func 160) #[] #[]):=by rw [World.cell?_of_block (HB.out.block h hh)];exact hc
 have HC:=h_ (HF.out W0 HB.out);have z0:=HX.out.c 0 rfl;have z1:=HX.out.c 1 rfl;have z2:=HX.out.c 2 rfl;have z3:=HX.out.c 3 rfl;have z4:=HX.out.c 4 rfl;have z5:=HX.out.c 5 rfl;have z6:=HX.out.c 6 rfl;have z7:=HX.out.c 7 rfl;have z8:=HX.out.c 8 rfl;clear hc hh HF;go_enter Tryz.func193,Tryz.ntmps193;go_upto_region 1 with fail;rw [<-hW0,<-hg0];clear hW0 hg0;go_wp2_with fail;refine HC.out.mono ?_;rintro e w2 ⟨rfl,hb⟩;have HB2:=h_ (HB.out.trans (hb.mono HB.out.size));clear hb HC HX z0 z1 z2 z3 z4 z5 z6 z7 z8 c0;go_wp2_with fail;go_ret;exact ⟨rfl,HB2.out⟩
def allWA (w:World) (l:List GA) (v:Value):Prop:=∀(i:Nat) (a:GA),l[i]?=some a->∃(g og c:Nat) (ev:EV),v=.slice (some ⟨g,og,none⟩) l.length c/\g<w.heap.size/\w.cell? ⟨g,og+i*9,none⟩=some (.int .i64 a.kind)/\w.cell? ⟨g,og+i*9+1,none⟩=some (txV a.name)/\w.cell? ⟨g,og+i*9+2,none⟩=some (.int .i64 ev.kind)/\w.cell? ⟨g,og+i*9+3,none⟩=some (.int .i64 ev.num)/\w.cell? ⟨g,og+i*9+4,none⟩=some (.string ev.name)/\w.cell? ⟨g,og+i*9+5,none⟩=some (.int .i64 ev.op)/\w.cell? ⟨g,og+i*9+6,none⟩=some (.slice ev.A ev.len ev.cap)/\w.cell? ⟨g,og+i*9+7,none⟩=some (.int .i64 ev.p)/\w.cell? ⟨g,og+i*9+8,none⟩=some (.int .i64 a.at_) /\
 ∀W,Below w.heap.size w W->Calls Tryz.prog 160 #[.agg #[.int .i64 a.kind,txV a.name,.int .i64 ev.kind,.int .i64 ev.num,.string ev.name,.int .i64 ev.op,.slice ev.A ev.len ev.cap,.int .i64 ev.p,.int .i64 a.at_]] W λ e w'=>e=.returned (.bool (okA a))/\Below W.heap.size W w'
theorem firstA_any (w0 w:World) (l:List GA) (A:Option Addr) (c h n:Nat) (hn:l.length=n) (hm:n<=9223372036854775807) (H0:Hid (allWA w0 l (.slice A n c))) (hb0:Below w0.heap.size w0 w) (hc:w.cell? ⟨h,0,none⟩=some (.func (.func 160) #[] #[])) (hh:h<w.heap.size) :
  Calls Tryz.prog 224 #[.slice A n c,.func (.func 193) #[] #[.pointer (some ⟨h,0,none⟩)]] w λ e w'=>∃r:Int,e=.returned (.int .i64 r)/\decide (0<=r)=!(l.all okA)/\Below w.heap.size w w':=by
 have HN:=h_ hn;have HM:=h_ hm;have HB0:=h_ hb0;have HC0:=h_ (And.intro hc hh);clear hn hm hb0 hc hh;go_enter Tryz.func224,Tryz.ntmps224;go_wp2_with fail
 go_loopw [8] (λ iv wr=>∃i:Nat,i<=n/\iv=.int .i64 (i:Int)/\Hid ((l.take i).all okA=true)/\Hid (Below w.heap.size w wr)) (λ iv _=>n-(intOf iv).toNat)
 case atStart=>exact ⟨0,Nat.zero_le _,rfl,rfl,b_ _ w⟩
 case round =>
  obtain ⟨i,hi,rfl,HT,HBW⟩:=hrel
  by_cases him:i<n
  ·have him':(i:Int)<n:=by omega
   have HIM:=h_ him
   obtain ⟨a,ha⟩:∃a,l[i]?=some a:=⟨_,List.getElem?_eq_getElem (by rw [HN.out];exact him)⟩
   have hyc:=H0.out i a ha;rw [HN.out] at hyc;obtain ⟨g,og,c',ev,hv,hg,y0,y1,y2,y3,y4,y5,y6,y7,y8,hcall⟩:=hyc
   obtain rfl:A=some ⟨g,og,none⟩:=by injection hv
   have hbw:Below w0.heap.size w0 wr:=HB0.out.trans (HBW.out.mono HB0.out.size)
   have kb:∀{p:Addr} {u:Value},w0.cell? p=some u->wr.cell? p=some u:=λ hc=>by rw [World.cell?_of_block (hbw.block _ (World.block_lt_of_cell? w0 _ hc))];exact hc
   have u0:=kb y0;have u1:=kb y1;have u2:=kb y2;have u3:=kb y3;have u4:=kb y4;have u5:=kb y5;have u6:=kb y6;have u7:=kb y7;have u8:=kb y8;have HCL:=h_ (notA_any wr a.kind a.at_ ⟨a.name.toArray⟩ ev h (okA a) (by rw [World.cell?_of_block (HBW.out.block h HC0.out.2)];exact HC0.out.1) (Nat.lt_of_lt_of_le HC0.out.2 HBW.out.size) (λ W hb=>hcall W (hbw.trans (hb.mono hbw.size))))
   obtain ⟨r,hr⟩:∃r,okA a=r:=⟨_,rfl⟩
   rw [hr] at HCL;have HAR:=h_ (And.intro ha hr);clear ha hr hv hg hcall hbw kb y0 y1 y2 y3 y4 y5 y6 y7 y8;cases r
   ·go_wp2_with fail;refine HCL.out.mono ?_;rintro e w2 ⟨rfl,hb⟩;have HB2:=h_ (HBW.out.trans (hb.mono HBW.out.size));clear hb HCL u0 u1 u2 u3 u4 u5 u6 u7 u8 HBW;go_wp2_with fail;go_ret;refine ⟨_,rfl,?_,HB2.out⟩
    have hf:l.all okA=false:=by
     rw [List.all_eq_false];exact ⟨a,List.mem_of_getElem? HAR.out.1,by rw [HAR.out.2];decide⟩
    rw [hf];simp
   ·go_wp2_with fail;refine HCL.out.mono ?_;rintro e w2 ⟨rfl,hb⟩;have HB2:=h_ (HBW.out.trans (hb.mono HBW.out.size));clear hb HCL u0 u1 u2 u3 u4 u5 u6 u7 u8 HBW;go_wp2_with fail
    go_roundw
    case rel =>
     refine ⟨i+1,by have:=HIM.out;omega,by have h1:=HIM.out;have h2:=HM.out;rw [Go.IntWalk.wrap64_in _ ⟨by omega,by omega⟩];rfl,?_,HB2⟩;show (l.take (i+1)).all okA=true;rw [List.take_add_one,HAR.out.1,List.all_append,HT.out];simp [HAR.out.2]
    case measure=>have h1:=HIM.out;have h2:=HM.out;rw [Go.IntWalk.wrap64_in _ ⟨by omega,by omega⟩];simp [intOf];omega
  ·have him':¬(i:Int)<n:=by omega
   have HALL:Hid (l.all okA=true):=by
    have:=HT.out;rw [List.take_of_length_le (by rw [HN.out];omega)] at this;exact this
   clear hi;go_wp2_with fail;go_ret;exact ⟨_,rfl,by rw [HALL.out];rfl,HBW.out⟩
theorem contA_any (w0 w:World) (l:List GA) (A:Option Addr) (c h n:Nat) (R:Bool) (hR:l.all okA=R) (hn:l.length=n) (hm:n<=9223372036854775807) (H0:Hid (allWA w0 l (.slice A n c))) (hb0:Below w0.heap.size w0 w) (hc:w.cell? ⟨h,0,none⟩=some (.func (.func 160) #[] #[])) (hh:h<w.heap.size) :
  Calls Tryz.prog 192 #[.slice A n c,.func (.func 193) #[] #[.pointer (some ⟨h,0,none⟩)]] w λ e w'=>e=.returned (.bool (!R))/\Below w.heap.size w w':=by
 have HC:=h_ (firstA_any w0 w l A c h n hn hm H0 hb0 hc hh);rw [hR] at HC;clear hn hm H0 hb0 hc hh hR;go_enter Tryz.func192,Tryz.ntmps192;go_wp2_with fail;refine HC.out.mono ?_;rintro e w2 ⟨r,rfl,hr,hb⟩;have HB2:=h_ hb;have HR2:=h_ hr;clear hb hr HC;go_wp2_with fail;go_ret;refine ⟨?_,HB2.out⟩;rw [<-HR2.out];rfl
theorem everyA_any (w:World) (l:List GA) (A:Option Addr) (c n:Nat) (hn:l.length=n) (hm:n<=9223372036854775807) (H0:Hid (allWA w l (.slice A n c))) :
  Calls Tryz.prog 159 #[.slice A n c,.func (.func 160) #[] #[]] w λ e w'=>e=.returned (.bool (l.all okA))/\Below w.heap.size w w':=by
 obtain ⟨W0,hW0⟩:∃W,W=w.alloc (.cells #[.func (.func 160) #[] #[]] 198):=⟨_,rfl⟩
 obtain ⟨g0,hg0⟩:∃g,g=w.heap.size:=⟨_,rfl⟩
 have HB:Hid (Below w.heap.size w W0):=by rw [hW0];exact (b_ _ w).alloc (n_ _) _
 have HX:Hid (CB W0 g0 198 [.func (.func 160) #[] #[]]):=by rw [hW0,hg0];exact CB.new w _ [.func (.func 160) #[] #[]]
 obtain ⟨R,hR⟩:∃R,l.all okA=R:=⟨_,rfl⟩
 have HC:=h_ (contA_any w W0 l A c g0 n R hR hn hm H0 HB.out (HX.out.c 0 rfl) HX.out.lt);rw [hR];clear hn hm H0 hR HX;go_enter Tryz.func159,Tryz.ntmps159;go_upto_region 1 with fail;rw [<-hW0,<-hg0];clear hW0 hg0;go_wp2_with fail;refine HC.out.mono ?_;rintro e w2 ⟨rfl,hb⟩;have HB2:=h_ (HB.out.trans (hb.mono HB.out.size));clear hb HC;go_wp2_with fail;go_ret;exact ⟨by cases R <;> rfl,HB2.out⟩
theorem notS_any (w:World) (S:ByteArray) (h:Nat) (r:Bool) (hc:w.cell? ⟨h,0,none⟩=some (.func (.func 86) #[] #[])) (_hh:h<w.heap.size)
  (HF:Hid (∀W,Below w.heap.size w W->Calls Tryz.prog 86 #[.string S] W λ e w'=>e=.returned (.bool r)/\Below W.heap.size W w')) :
  Calls Tryz.prog 198 #[.string S,.pointer (some ⟨h,0,none⟩)] w λ e w'=>e=.returned (.bool (!r))/\Below w.heap.size w w':=by
 have HC:=h_ (HF.out w (b_ _ w));clear _hh HF;go_enter Tryz.func198,Tryz.ntmps198;go_wp2_with fail;refine HC.out.mono ?_;rintro e w2 ⟨rfl,hb⟩;have HB2:=h_ hb;clear hb HC hc;go_wp2_with fail;go_ret;exact ⟨rfl,HB2.out⟩
def allWS (w:World) (l:List (List UInt8)) (v:Value):Prop:=∀(i:Nat) (a:(List UInt8)),l[i]?=some a->∃(g og c:Nat) (_:Unit),v=.slice (some ⟨g,og,none⟩) l.length c/\g<w.heap.size/\w.cell? ⟨g,og+i,none⟩=some (txV a) /\
 ∀W,Below w.heap.size w W->Calls Tryz.prog 86 #[txV a] W λ e w'=>e=.returned (.bool (isNm a))/\Below W.heap.size W w'
theorem firstS_any (w0 w:World) (l:List (List UInt8)) (A:Option Addr) (c h n:Nat) (hn:l.length=n) (hm:n<=9223372036854775807) (H0:Hid (allWS w0 l (.slice A n c))) (hb0:Below w0.heap.size w0 w) (hc:w.cell? ⟨h,0,none⟩=some (.func (.func 86) #[] #[])) (hh:h<w.heap.size) :
  Calls Tryz.prog 225 #[.slice A n c,.func (.func 198) #[] #[.pointer (some ⟨h,0,none⟩)]] w λ e w'=>∃r:Int,e=.returned (.int .i64 r)/\decide (0<=r)=!(l.all isNm)/\Below w.heap.size w w':=by
 have HN:=h_ hn;have HM:=h_ hm;have HB0:=h_ hb0;have HC0:=h_ (And.intro hc hh);clear hn hm hb0 hc hh;go_enter Tryz.func225,Tryz.ntmps225;go_wp2_with fail
 go_loopw [8] (λ iv wr=>∃i:Nat,i<=n/\iv=.int .i64 (i:Int)/\Hid ((l.take i).all isNm=true)/\Hid (Below w.heap.size w wr)) (λ iv _=>n-(intOf iv).toNat)
 case atStart=>exact ⟨0,Nat.zero_le _,rfl,rfl,b_ _ w⟩
 case round =>
  obtain ⟨i,hi,rfl,HT,HBW⟩:=hrel
  by_cases him:i<n
  ·have him':(i:Int)<n:=by omega
   have HIM:=h_ him
   obtain ⟨a,ha⟩:∃a,l[i]?=some a:=⟨_,List.getElem?_eq_getElem (by rw [HN.out];exact him)⟩
   have hyc:=H0.out i a ha;rw [HN.out] at hyc;obtain ⟨g,og,c',_,hv,hg,y0,hcall⟩:=hyc
   obtain rfl:A=some ⟨g,og,none⟩:=by injection hv
   have hbw:Below w0.heap.size w0 wr:=HB0.out.trans (HBW.out.mono HB0.out.size)
   have kb:∀{p:Addr} {u:Value},w0.cell? p=some u->wr.cell? p=some u:=λ hc=>by rw [World.cell?_of_block (hbw.block _ (World.block_lt_of_cell? w0 _ hc))];exact hc
   have u0:=kb y0;have HCL:=h_ (notS_any wr ⟨a.toArray⟩ h (isNm a) (by rw [World.cell?_of_block (HBW.out.block h HC0.out.2)];exact HC0.out.1) (Nat.lt_of_lt_of_le HC0.out.2 HBW.out.size) (λ W hb=>hcall W (hbw.trans (hb.mono hbw.size))))
   obtain ⟨r,hr⟩:∃r,isNm a=r:=⟨_,rfl⟩
   rw [hr] at HCL;have HAR:=h_ (And.intro ha hr);clear ha hr hv hg hcall hbw kb y0;cases r
   ·go_wp2_with fail;refine HCL.out.mono ?_;rintro e w2 ⟨rfl,hb⟩;have HB2:=h_ (HBW.out.trans (hb.mono HBW.out.size));clear hb HCL u0 HBW;go_wp2_with fail;go_ret;refine ⟨_,rfl,?_,HB2.out⟩
    have hf:l.all isNm=false:=by
     rw [List.all_eq_false];exact ⟨a,List.mem_of_getElem? HAR.out.1,by rw [HAR.out.2];decide⟩
    rw [hf];simp
   ·go_wp2_with fail;refine HCL.out.mono ?_;rintro e w2 ⟨rfl,hb⟩;have HB2:=h_ (HBW.out.trans (hb.mono HBW.out.size));clear hb HCL u0 HBW;go_wp2_with fail
    go_roundw
    case rel =>
     refine ⟨i+1,by have:=HIM.out;omega,by have h1:=HIM.out;have h2:=HM.out;rw [Go.IntWalk.wrap64_in _ ⟨by omega,by omega⟩];rfl,?_,HB2⟩;show (l.take (i+1)).all isNm=true;rw [List.take_add_one,HAR.out.1,List.all_append,HT.out];simp [HAR.out.2]
    case measure=>have h1:=HIM.out;have h2:=HM.out;rw [Go.IntWalk.wrap64_in _ ⟨by omega,by omega⟩];simp [intOf];omega
  ·have him':¬(i:Int)<n:=by omega
   have HALL:Hid (l.all isNm=true):=by
    have:=HT.out;rw [List.take_of_length_le (by rw [HN.out];omega)] at this;exact this
   clear hi;go_wp2_with fail;go_ret;exact ⟨_,rfl,by rw [HALL.out];rfl,HBW.out⟩
theorem contS_any (w0 w:World) (l:List (List UInt8)) (A:Option Addr) (c h n:Nat) (R:Bool) (hR:l.all isNm=R) (hn:l.length=n) (hm:n<=9223372036854775807) (H0:Hid (allWS w0 l (.slice A n c))) (hb0:Below w0.heap.size w0 w) (hc:w.cell? ⟨h,0,none⟩=some (.func (.func 86) #[] #[])) (hh:h<w.heap.size) :
  Calls Tryz.prog 197 #[.slice A n c,.func (.func 198) #[] #[.pointer (some ⟨h,0,none⟩)]] w λ e w'=>e=.returned (.bool (!R))/\Below w.heap.size w w':=by
 have HC:=h_ (firstS_any w0 w l A c h n hn hm H0 hb0 hc hh);rw [hR] at HC;clear hn hm H0 hb0 hc hh hR;go_enter Tryz.func197,Tryz.ntmps197;go_wp2_with fail;refine HC.out.mono ?_;rintro e w2 ⟨r,rfl,hr,hb⟩;have HB2:=h_ hb;have HR2:=h_ hr;clear hb hr HC;go_wp2_with fail;go_ret;refine ⟨?_,HB2.out⟩;rw [<-HR2.out];rfl
theorem everyS_any (w:World) (l:List (List UInt8)) (A:Option Addr) (c n:Nat) (hn:l.length=n) (hm:n<=9223372036854775807) (H0:Hid (allWS w l (.slice A n c))) :
  Calls Tryz.prog 165 #[.slice A n c,.func (.func 86) #[] #[]] w λ e w'=>e=.returned (.bool (l.all isNm))/\Below w.heap.size w w':=by
 obtain ⟨W0,hW0⟩:∃W,W=w.alloc (.cells #[.func (.func 86) #[] #[]] 112):=⟨_,rfl⟩
 obtain ⟨g0,hg0⟩:∃g,g=w.heap.size:=⟨_,rfl⟩
 have HB:Hid (Below w.heap.size w W0):=by rw [hW0];exact (b_ _ w).alloc (n_ _) _
 have HX:Hid (CB W0 g0 112 [.func (.func 86) #[] #[]]):=by rw [hW0,hg0];exact CB.new w _ [.func (.func 86) #[] #[]]
 obtain ⟨R,hR⟩:∃R,l.all isNm=R:=⟨_,rfl⟩
 have HC:=h_ (contS_any w W0 l A c g0 n R hR hn hm H0 HB.out (HX.out.c 0 rfl) HX.out.lt);rw [hR];clear hn hm H0 hR HX;go_enter Tryz.func165,Tryz.ntmps165;go_upto_region 1 with fail;rw [<-hW0,<-hg0];clear hW0 hg0;go_wp2_with fail;refine HC.out.mono ?_;rintro e w2 ⟨rfl,hb⟩;have HB2:=h_ (HB.out.trans (hb.mono HB.out.size));clear hb HC;go_wp2_with fail;go_ret;exact ⟨by cases R <;> rfl,HB2.out⟩
structure Ee (w:World):Prop where
 vr:Vars w
 sg:SgAt w
 pw:PowTab w
theorem Ee.below {w w':World} (h:Ee w) (hb:Below w.heap.size w w'):Ee w':=⟨h.vr.below hb,h.sg.below hb,h.pw.below hb⟩
theorem Ee.vs {w:World} (h:Ee w):Vs w:=⟨h.vr.kw,h.sg⟩
theorem Ee.wv {w:World} (h:Ee w):Wv w:=⟨h.vr.kw,h.sg,h.pw⟩
theorem fine_rng:∀e:Ex,e.fine->e.gx.rng
 |.int n p,h=>by
  show GX.rng (.mk 1 n [] 0 [] p);rw [GX.rng,GX.rngs];exact ⟨⟨by have:=h.1;omega,h.2⟩,by decide,by decide,trivial⟩
 |.var s p,h=>by
  show GX.rng (.mk 2 0 s 0 [] p);rw [GX.rng,GX.rngs];obtain ⟨_,_,_,_,_,h2,_⟩:=isNm_parts h;exact ⟨by decide,by decide,by omega,trivial⟩
 |.inn s p,h=>by
  show GX.rng (.mk 3 0 s 0 [] p);rw [GX.rng,GX.rngs];obtain ⟨_,_,_,_,_,h2,_⟩:=isNm_parts h;exact ⟨by decide,by decide,by omega,trivial⟩
 |.one op x p,h=>by
  show GX.rng (.mk 4 0 [] op [x.gx] p);rw [GX.rng,GX.rngs,GX.rngs];exact ⟨by decide,by rcases h.1 with h|h <;> rw [h] <;> decide,by decide,fine_rng x h.2,trivial⟩
 |.both op x y,h=>by
  show GX.rng (.mk 5 0 [] op [x.gx,y.gx] x.pos);rw [GX.rng,GX.rngs,GX.rngs,GX.rngs];refine ⟨by decide,?_,by decide,fine_rng x h.2.1,fine_rng y h.2.2,trivial⟩
  rcases row_cases h.1 with h|h|h|h|h|h|h|h|h|h|h|h|h <;> rw [h] <;> decide
theorem toArr {X:ByteArray} {l:List UInt8} (h:txV l=.string X):X.data.toList=l:=by
 have:X=⟨l.toArray⟩:=by injection h with h;exact h.symm
 rw [this]
theorem dec_beq (a b:Int):decide (a=b)=(a==b):=by
 by_cases h:a=b
 ·rw [h];simp
 ·rw [decide_eq_false h];simp [h]
theorem len_beq {α:Type} (l:List α):l.isEmpty=((l.length:Int)==0):=by
 cases l with
 |nil=>rfl
 |cons a l =>
  have:((a::l).length:Int)≠0:=by rw [List.length_cons];omega
  show false=_
  symm
  exact beq_eq_false_iff_ne.2 this
theorem nothing_any (w:World) (x:GX) (ev:EV) (hg:GV w 0 w.heap.size x ev) :
  Calls Tryz.prog 195 #[.agg #[.int .i64 ev.kind,.int .i64 ev.num,.string ev.name,.int .i64 ev.op,.slice ev.A ev.len ev.cap,.int .i64 ev.p]] w λ e w'=>e=.returned (.bool (nothing x))/\Below w.heap.size w w':=by
 obtain ⟨W1,hW1⟩:∃W,W=w.alloc (.cells #[.int .i64 ev.kind,.int .i64 ev.num,.string ev.name,.int .i64 ev.op,.slice ev.A ev.len ev.cap,.int .i64 ev.p] 40):=⟨_,rfl⟩
 obtain ⟨g1,hg1⟩:∃g,g=w.heap.size:=⟨_,rfl⟩
 have HB:Hid (Below w.heap.size w W1):=by rw [hW1];exact (b_ _ w).alloc (n_ _) _
 have HX:Hid (CB W1 g1 40 [.int .i64 ev.kind,.int .i64 ev.num,.string ev.name,.int .i64 ev.op,.slice ev.A ev.len ev.cap,.int .i64 ev.p]):=by rw [hW1,hg1];exact CB.new w _ [.int .i64 ev.kind,.int .i64 ev.num,.string ev.name,.int .i64 ev.op,.slice ev.A ev.len ev.cap,.int .i64 ev.p]
 have hR:nothing x=((ev.kind==0)&&(ev.num==0)&&ev.name.toList.isEmpty&&(ev.op==0)&&((ev.len:Int)==0)):=by
  obtain ⟨a1,a2,a3,a4,a5,a6,_⟩:=hg.out;unfold nothing;rw [dec_beq,dec_beq,dec_beq,len_beq x.subs,<-a1,<-a2,<-a3,<-a4,<-a6,Lib.toList_data]
 obtain ⟨q1,hq1⟩:∃q:Bool,(ev.kind==0)=q:=⟨_,rfl⟩
 obtain ⟨q2,hq2⟩:∃q:Bool,(ev.num==0)=q:=⟨_,rfl⟩
 obtain ⟨q3,hq3⟩:∃q:Bool,(ev.name.toList.isEmpty)=q:=⟨_,rfl⟩
 obtain ⟨q4,hq4⟩:∃q:Bool,(ev.op==0)=q:=⟨_,rfl⟩
 obtain ⟨q5,hq5⟩:∃q:Bool,((ev.len:Int)==0)=q:=⟨_,rfl⟩
 rw [hq1,hq2,hq3,hq4,hq5] at hR;have HR:=h_ hR;have z0:=HX.out.c 0 rfl;have z1:=HX.out.c 1 rfl;have z2:=HX.out.c 2 rfl;have z3:=HX.out.c 3 rfl;have z4:=HX.out.c 4 rfl;clear hR hg;go_enter Tryz.func195,Tryz.ntmps195;go_upto_region 1 with fail;rw [<-hW1,<-hg1];clear hW1 hg1;cases q1
 ·go_wp2_with fail;go_ret;exact ⟨by rw [HR.out];rfl,HB.out⟩
 ·cases q2
  ·go_wp2_with fail;go_ret;exact ⟨by rw [HR.out];rfl,HB.out⟩
  ·cases q3
   ·go_wp2_with fail;go_ret;exact ⟨by rw [HR.out];rfl,HB.out⟩
   ·cases q4
    ·go_wp2_with fail;go_ret;exact ⟨by rw [HR.out];rfl,HB.out⟩
    ·cases q5
     ·go_wp2_with fail;go_ret;exact ⟨by rw [HR.out];rfl,HB.out⟩
     ·go_wp2_with fail;go_ret;exact ⟨by rw [HR.out];rfl,HB.out⟩
theorem isvar_any (w:World) (v:SyVar) (X:ByteArray) (hX:txV v.name=.string X) (hr:v.rng) (hK:KwAt w) :
  Calls Tryz.prog 53 #[.agg #[.string X,.int .i64 v.num,.int .i64 v.at_]] w λ e w'=>e=.returned (.bool (okV v))/\Below w.heap.size w w':=by
 obtain ⟨W1,hW1⟩:∃W,W=w.alloc (.cells #[.string X,.int .i64 v.num,.int .i64 v.at_] 74):=⟨_,rfl⟩
 obtain ⟨g1,hg1⟩:∃g,g=w.heap.size:=⟨_,rfl⟩
 have HB:Hid (Below w.heap.size w W1):=by rw [hW1];exact (b_ _ w).alloc (n_ _) _
 have HX:Hid (CB W1 g1 74 [.string X,.int .i64 v.num,.int .i64 v.at_]):=by rw [hW1,hg1];exact CB.new w _ [.string X,.int .i64 v.num,.int .i64 v.at_]
 have hS:X.size<=140737488351232:=by
  have h1:=hr.1;rw [<-toArr hX] at h1;exact h1
 have HN:=h_ (name_any X W1 hS (hK.below HB.out));rw [toArr hX] at HN
 have hR:okV v=(isNm v.name&&(v.num != -9223372036854775808)):=by
  unfold okV
  congr 1
  by_cases h:v.num=-9223372036854775808
  ·rw [h];decide
  ·rw [decide_eq_true h];simp [h]
 obtain ⟨q1,hq1⟩:∃q:Bool,(isNm v.name)=q:=⟨_,rfl⟩
 obtain ⟨q2,hq2⟩:∃q:Bool,(v.num != -9223372036854775808)=q:=⟨_,rfl⟩
 rw [hq1,hq2] at hR;rw [hq1] at HN;have HR:=h_ hR;have z0:=HX.out.c 0 rfl;have z1:=HX.out.c 1 rfl;clear hR hX hr hK hS;go_enter Tryz.func53,Tryz.ntmps53;go_upto_region 1 with fail;rw [<-hW1,<-hg1];clear hW1 hg1;cases q1
 ·go_wp2_with fail;refine HN.out.mono ?_;rintro e w2 ⟨rfl,rfl⟩;go_wp2_with fail;go_ret;exact ⟨by rw [HR.out];rfl,HB.out⟩
 ·cases q2
  ·go_wp2_with fail;refine HN.out.mono ?_;rintro e w2 ⟨rfl,rfl⟩;go_wp2_with fail;go_ret;exact ⟨by rw [HR.out];rfl,HB.out⟩
  ·go_wp2_with fail;refine HN.out.mono ?_;rintro e w2 ⟨rfl,rfl⟩;go_wp2_with fail;go_ret;exact ⟨by rw [HR.out];rfl,HB.out⟩
theorem isact_any (w:World) (a:GA) (ev:EV) (X:ByteArray) (hX:txV a.name=.string X) (hg:GV w 0 w.heap.size a.val ev) (hr:a.rng) (hE:Ee w) :
  Calls Tryz.prog 160 #[.agg #[.int .i64 a.kind,.string X,.int .i64 ev.kind,.int .i64 ev.num,.string ev.name,.int .i64 ev.op,.slice ev.A ev.len ev.cap,.int .i64 ev.p,.int .i64 a.at_]] w λ e w'=>e=.returned (.bool (okA a))/\Below w.heap.size w w':=by
 obtain ⟨W1,hW1⟩:∃W,W=w.alloc (.cells #[.int .i64 a.kind,.string X,.int .i64 ev.kind,.int .i64 ev.num,.string ev.name,.int .i64 ev.op,.slice ev.A ev.len ev.cap,.int .i64 ev.p,.int .i64 a.at_] 145):=⟨_,rfl⟩
 obtain ⟨g1,hg1⟩:∃g,g=w.heap.size:=⟨_,rfl⟩
 have HB:Hid (Below w.heap.size w W1):=by rw [hW1];exact (b_ _ w).alloc (n_ _) _
 have HX:Hid (CB W1 g1 145 [.int .i64 a.kind,.string X,.int .i64 ev.kind,.int .i64 ev.num,.string ev.name,.int .i64 ev.op,.slice ev.A ev.len ev.cap,.int .i64 ev.p,.int .i64 a.at_]):=by rw [hW1,hg1];exact CB.new w _ [.int .i64 a.kind,.string X,.int .i64 ev.kind,.int .i64 ev.num,.string ev.name,.int .i64 ev.op,.slice ev.A ev.len ev.cap,.int .i64 ev.p,.int .i64 a.at_]
 have hS:X.size<=140737488351232:=by
  have h1:=hr.1;rw [<-toArr hX] at h1;exact h1
 have HN:=h_ (name_any X W1 hS (hE.vr.kw.below HB.out));rw [toArr hX] at HN;have hg1':GV W1 0 W1.heap.size a.val ev:=(GV.below hg HB.out (n_ _)).mono (n_ 0) HB.out.size;have HRI:=h_ (eright_any W1 a.val ev (hE.below HB.out).wv hr.2 hg1');simp only [EV.val] at HRI;have HNO:=h_ (nothing_any W1 a.val ev hg1')
 obtain ⟨q1,hq1⟩:∃q:Bool,(isNm a.name)=q:=⟨_,rfl⟩
 rw [hq1] at HN;clear hg1' hg hr hE hX hS
 by_cases k1:a.kind=1∨a.kind=2∨a.kind=3
 rcases k1 with hK|hK|hK
 ·have hR:okA a=(isNm a.name&&a.val.right.isSome):=by
   unfold okA;rw [if_pos (by rw [hK];decide)]
  obtain ⟨q2,hq2⟩:∃q:Bool,a.val.right.isSome=q:=⟨_,rfl⟩
  rw [hq1,hq2] at hR;rw [hq2] at HRI;have HR:=h_ hR;rw [hK] at HX;have z0:=HX.out.c 0 rfl;have z1:=HX.out.c 1 rfl;have z2:=HX.out.c 2 rfl;have z3:=HX.out.c 3 rfl;have z4:=HX.out.c 4 rfl;have z5:=HX.out.c 5 rfl;have z6:=HX.out.c 6 rfl;have z7:=HX.out.c 7 rfl;rw [hK] at hW1 ⊢;clear hR hK hq2 hq1;go_enter Tryz.func160,Tryz.ntmps160;go_upto_region 1 with fail;rw [<-hW1,<-hg1];clear hW1 hg1;cases q1
  ·go_wp2_with fail;refine HN.out.mono ?_;rintro e w2 ⟨rfl,rfl⟩;go_wp2_with fail;go_ret;exact ⟨by rw [HR.out];rfl,HB.out⟩
  ·go_wp2_with fail;refine HN.out.mono ?_;rintro e w2 ⟨rfl,rfl⟩;go_wp2_with fail;refine HRI.out.mono ?_;rintro e w3 ⟨rfl,hb⟩;have HB3:=h_ (HB.out.trans (hb.mono HB.out.size));clear hb HN HRI HX;go_wp2_with fail;go_ret;exact ⟨by rw [HR.out];cases q2 <;> rfl,HB3.out⟩
 ·have hR:okA a=(isNm a.name&&nothing a.val):=by
   unfold okA;rw [if_neg (by rw [hK];decide),hK];rfl
  obtain ⟨q2,hq2⟩:∃q:Bool,nothing a.val=q:=⟨_,rfl⟩
  rw [hq1,hq2] at hR;rw [hq2] at HNO;have HR:=h_ hR;rw [hK] at HX;have z0:=HX.out.c 0 rfl;have z1:=HX.out.c 1 rfl;have z2:=HX.out.c 2 rfl;have z3:=HX.out.c 3 rfl;have z4:=HX.out.c 4 rfl;have z5:=HX.out.c 5 rfl;have z6:=HX.out.c 6 rfl;have z7:=HX.out.c 7 rfl;rw [hK] at hW1 ⊢;clear hR hK hq2 hq1;go_enter Tryz.func160,Tryz.ntmps160;go_upto_region 1 with fail;rw [<-hW1,<-hg1];clear hW1 hg1;cases q1
  ·go_wp2_with fail;refine HN.out.mono ?_;rintro e w2 ⟨rfl,rfl⟩;go_wp2_with fail;go_ret;exact ⟨by rw [HR.out];rfl,HB.out⟩
  ·go_wp2_with fail;refine HN.out.mono ?_;rintro e w2 ⟨rfl,rfl⟩;go_wp2_with fail;refine HNO.out.mono ?_;rintro e w3 ⟨rfl,hb⟩;have HB3:=h_ (HB.out.trans (hb.mono HB.out.size));clear hb HN HNO HX;go_wp2_with fail;go_ret;exact ⟨by rw [HR.out];cases q2 <;> rfl,HB3.out⟩
 ·have hR:okA a=(isNm a.name&&a.val.right.isSome):=by
   unfold okA;rw [if_pos (by rw [hK];decide)]
  obtain ⟨q2,hq2⟩:∃q:Bool,a.val.right.isSome=q:=⟨_,rfl⟩
  rw [hq1,hq2] at hR;rw [hq2] at HRI;have HR:=h_ hR;rw [hK] at HX;have z0:=HX.out.c 0 rfl;have z1:=HX.out.c 1 rfl;have z2:=HX.out.c 2 rfl;have z3:=HX.out.c 3 rfl;have z4:=HX.out.c 4 rfl;have z5:=HX.out.c 5 rfl;have z6:=HX.out.c 6 rfl;have z7:=HX.out.c 7 rfl;rw [hK] at hW1 ⊢;clear hR hK hq2 hq1;go_enter Tryz.func160,Tryz.ntmps160;go_upto_region 1 with fail;rw [<-hW1,<-hg1];clear hW1 hg1;cases q1
  ·go_wp2_with fail;refine HN.out.mono ?_;rintro e w2 ⟨rfl,rfl⟩;go_wp2_with fail;go_ret;exact ⟨by rw [HR.out];rfl,HB.out⟩
  ·go_wp2_with fail;refine HN.out.mono ?_;rintro e w2 ⟨rfl,rfl⟩;go_wp2_with fail;refine HRI.out.mono ?_;rintro e w3 ⟨rfl,hb⟩;have HB3:=h_ (HB.out.trans (hb.mono HB.out.size));clear hb HN HRI HX;go_wp2_with fail;go_ret;exact ⟨by rw [HR.out];cases q2 <;> rfl,HB3.out⟩
 ·have hR:okA a=false:=by
   unfold okA;rw [if_neg (by omega),decide_eq_false (by omega)];simp
  have HR:=h_ hR
  have e1:(a.kind==1)=false:=by simp;omega
  have e2:(a.kind==2)=false:=by simp;omega
  have e3:(a.kind==3)=false:=by simp;omega
  have z0:=HX.out.c 0 rfl;clear hR k1 HN HRI HNO hq1;go_enter Tryz.func160,Tryz.ntmps160;go_upto_region 1 with fail;rw [<-hW1,<-hg1];clear hW1 hg1;go_wp2_with fail;go_ret;exact ⟨by rw [HR.out];rfl,HB.out⟩
theorem trig_any (w:World) (m:GM) (ev:EV) (X:ByteArray) (A1 A2:Option Addr) (c1 c2:Nat) (hX:txV m.event=.string X) (hr:m.rng) (hK0:KwAt w) :
  Calls Tryz.prog 163 #[.agg #[.int .i64 m.kind,.string X,.int .i64 m.wait,.bool m.guarded,.int .i64 ev.kind,.int .i64 ev.num,.string ev.name,.int .i64 ev.op,.slice ev.A ev.len ev.cap,.int .i64 ev.p,.slice A1 m.acts.length c1,.slice A2 m.targets.length c2,.int .i64 m.at_]] w λ e w'=>e=.returned (.bool (trig m))/\Below w.heap.size w w':=by
 obtain ⟨W1,hW1⟩:∃W,W=w.alloc (.cells #[.int .i64 m.kind,.string X,.int .i64 m.wait,.bool m.guarded,.int .i64 ev.kind,.int .i64 ev.num,.string ev.name,.int .i64 ev.op,.slice ev.A ev.len ev.cap,.int .i64 ev.p,.slice A1 m.acts.length c1,.slice A2 m.targets.length c2,.int .i64 m.at_] 43):=⟨_,rfl⟩
 obtain ⟨g1,hg1⟩:∃g,g=w.heap.size:=⟨_,rfl⟩
 have HB:Hid (Below w.heap.size w W1):=by rw [hW1];exact (b_ _ w).alloc (n_ _) _
 have HX:Hid (CB W1 g1 43 [.int .i64 m.kind,.string X,.int .i64 m.wait,.bool m.guarded,.int .i64 ev.kind,.int .i64 ev.num,.string ev.name,.int .i64 ev.op,.slice ev.A ev.len ev.cap,.int .i64 ev.p,.slice A1 m.acts.length c1,.slice A2 m.targets.length c2,.int .i64 m.at_]):=by rw [hW1,hg1];exact CB.new w _ [.int .i64 m.kind,.string X,.int .i64 m.wait,.bool m.guarded,.int .i64 ev.kind,.int .i64 ev.num,.string ev.name,.int .i64 ev.op,.slice ev.A ev.len ev.cap,.int .i64 ev.p,.slice A1 m.acts.length c1,.slice A2 m.targets.length c2,.int .i64 m.at_]
 have hS:X.size<=140737488351232:=by
  have h1:=hr.1;rw [<-toArr hX] at h1;exact h1
 have HN:=h_ (name_any X W1 hS (hK0.below HB.out));rw [toArr hX] at HN
 have hie:m.event.isEmpty=X.toList.isEmpty:=by rw [Lib.toList_data,toArr hX]
 clear hX hr hK0 hS
 by_cases k1:m.kind=1
 ·have hR:trig m=(isNm m.event&&(m.wait==0)):=by
   unfold trig;rw [if_pos k1,dec_beq]
  obtain ⟨q1,hq1⟩:∃q:Bool,isNm m.event=q:=⟨_,rfl⟩
  obtain ⟨q2,hq2⟩:∃q:Bool,(m.wait==0)=q:=⟨_,rfl⟩
  rw [hq1,hq2] at hR;rw [hq1] at HN;have HR:=h_ hR;rw [k1] at HX hW1 ⊢;have z0:=HX.out.c 0 rfl;have z1:=HX.out.c 1 rfl;have z2:=HX.out.c 2 rfl;clear hR k1 hie;go_enter Tryz.func163,Tryz.ntmps163;go_upto_region 1 with fail;rw [<-hW1,<-hg1];clear hW1 hg1;cases q1
  ·go_wp2_with fail;refine HN.out.mono ?_;rintro e w2 ⟨rfl,rfl⟩;go_wp2_with fail;go_ret;exact ⟨by rw [HR.out];rfl,HB.out⟩
  ·cases q2
   ·go_wp2_with fail;refine HN.out.mono ?_;rintro e w2 ⟨rfl,rfl⟩;go_wp2_with fail;go_ret;exact ⟨by rw [HR.out];rfl,HB.out⟩
   ·go_wp2_with fail;refine HN.out.mono ?_;rintro e w2 ⟨rfl,rfl⟩;go_wp2_with fail;go_ret;exact ⟨by rw [HR.out];rfl,HB.out⟩
 ·by_cases k2:m.kind=2
  ·have hR:trig m=(X.toList.isEmpty&&(m.wait==0)):=by
    unfold trig;rw [if_neg k1,if_pos k2,dec_beq,hie]
   obtain ⟨q1,hq1⟩:∃q:Bool,X.toList.isEmpty=q:=⟨_,rfl⟩
   obtain ⟨q2,hq2⟩:∃q:Bool,(m.wait==0)=q:=⟨_,rfl⟩
   rw [hq1,hq2] at hR;have HR:=h_ hR;rw [k2] at HX hW1 ⊢;have z0:=HX.out.c 0 rfl;have z1:=HX.out.c 1 rfl;have z2:=HX.out.c 2 rfl;clear hR k1 k2 hie HN;go_enter Tryz.func163,Tryz.ntmps163;go_upto_region 1 with fail;rw [<-hW1,<-hg1];clear hW1 hg1;cases q1
   ·go_wp2_with fail;go_ret;exact ⟨by rw [HR.out];rfl,HB.out⟩
   ·cases q2
    ·go_wp2_with fail;go_ret;exact ⟨by rw [HR.out];rfl,HB.out⟩
    ·go_wp2_with fail;go_ret;exact ⟨by rw [HR.out];rfl,HB.out⟩
  ·by_cases k3:m.kind=3
   ·have hR:trig m=(X.toList.isEmpty&&decide (0<=m.wait)):=by
     unfold trig;rw [if_neg k1,if_neg k2,decide_eq_true k3,hie,Bool.true_and]
    obtain ⟨q1,hq1⟩:∃q:Bool,X.toList.isEmpty=q:=⟨_,rfl⟩
    obtain ⟨q2,hq2⟩:∃q:Bool,decide (0<=m.wait)=q:=⟨_,rfl⟩
    rw [hq1,hq2] at hR;have HR:=h_ hR;rw [k3] at HX hW1 ⊢;have z0:=HX.out.c 0 rfl;have z1:=HX.out.c 1 rfl;have z2:=HX.out.c 2 rfl;clear hR k1 k2 k3 hie HN;go_enter Tryz.func163,Tryz.ntmps163;go_upto_region 1 with fail;rw [<-hW1,<-hg1];clear hW1 hg1;cases q1
    ·go_wp2_with fail;go_ret;exact ⟨by rw [HR.out];rfl,HB.out⟩
    ·cases q2
     ·go_wp2_with fail;go_ret;exact ⟨by rw [HR.out];rfl,HB.out⟩
     ·go_wp2_with fail;go_ret;exact ⟨by rw [HR.out];rfl,HB.out⟩
   ·have hR:trig m=false:=by
     unfold trig;rw [if_neg k1,if_neg k2,decide_eq_false k3];rfl
    have HR:=h_ hR
    have e1:(m.kind==1)=false:=by simpa using k1
    have e2:(m.kind==2)=false:=by simpa using k2
    have e3:(m.kind==3)=false:=by simpa using k3
    have z0:=HX.out.c 0 rfl;clear hR k1 k2 k3 hie HN;go_enter Tryz.func163,Tryz.ntmps163;go_upto_region 1 with fail;rw [<-hW1,<-hg1];clear hW1 hg1;go_wp2_with fail;go_ret;exact ⟨by rw [HR.out];rfl,HB.out⟩
theorem grd_any (w:World) (m:GM) (ev:EV) (X:ByteArray) (A1 A2:Option Addr) (c1 c2:Nat) (hg:GV w 0 w.heap.size m.guard ev) (hr:m.rng) (hE:Ee w) :
  Calls Tryz.prog 164 #[.agg #[.int .i64 m.kind,.string X,.int .i64 m.wait,.bool m.guarded,.int .i64 ev.kind,.int .i64 ev.num,.string ev.name,.int .i64 ev.op,.slice ev.A ev.len ev.cap,.int .i64 ev.p,.slice A1 m.acts.length c1,.slice A2 m.targets.length c2,.int .i64 m.at_]] w λ e w'=>e=.returned (.bool (grd m))/\Below w.heap.size w w':=by
 obtain ⟨W1,hW1⟩:∃W,W=w.alloc (.cells #[.int .i64 m.kind,.string X,.int .i64 m.wait,.bool m.guarded,.int .i64 ev.kind,.int .i64 ev.num,.string ev.name,.int .i64 ev.op,.slice ev.A ev.len ev.cap,.int .i64 ev.p,.slice A1 m.acts.length c1,.slice A2 m.targets.length c2,.int .i64 m.at_] 43):=⟨_,rfl⟩
 obtain ⟨g1,hg1⟩:∃g,g=w.heap.size:=⟨_,rfl⟩
 have HB:Hid (Below w.heap.size w W1):=by rw [hW1];exact (b_ _ w).alloc (n_ _) _
 have HX:Hid (CB W1 g1 43 [.int .i64 m.kind,.string X,.int .i64 m.wait,.bool m.guarded,.int .i64 ev.kind,.int .i64 ev.num,.string ev.name,.int .i64 ev.op,.slice ev.A ev.len ev.cap,.int .i64 ev.p,.slice A1 m.acts.length c1,.slice A2 m.targets.length c2,.int .i64 m.at_]):=by rw [hW1,hg1];exact CB.new w _ [.int .i64 m.kind,.string X,.int .i64 m.wait,.bool m.guarded,.int .i64 ev.kind,.int .i64 ev.num,.string ev.name,.int .i64 ev.op,.slice ev.A ev.len ev.cap,.int .i64 ev.p,.slice A1 m.acts.length c1,.slice A2 m.targets.length c2,.int .i64 m.at_]
 have hg1':GV W1 0 W1.heap.size m.guard ev:=(GV.below hg HB.out (n_ _)).mono (n_ 0) HB.out.size;have HRI:=h_ (eright_any W1 m.guard ev (hE.below HB.out).wv hr.2.2.1 hg1');simp only [EV.val] at HRI;have HNO:=h_ (nothing_any W1 m.guard ev hg1')
 have hR:grd m=if m.guarded=true then m.guard.right.isSome else nothing m.guard:=rfl
 obtain ⟨q1,hq1⟩:∃q:Bool,m.guard.right.isSome=q:=⟨_,rfl⟩
 obtain ⟨q2,hq2⟩:∃q:Bool,nothing m.guard=q:=⟨_,rfl⟩
 rw [hq1] at HRI;rw [hq2] at HNO;rw [hq1,hq2] at hR
 obtain ⟨d,hd⟩:∃d,m.guarded=d:=⟨_,rfl⟩
 rw [hd] at hR HX hW1 ⊢;clear hg1' hg hr hE hd hq1 hq2;cases d
 ·have HR:Hid (grd m=q2):=hR;have z3:=HX.out.c 3 rfl;have z4:=HX.out.c 4 rfl;have z5:=HX.out.c 5 rfl;have z6:=HX.out.c 6 rfl;have z7:=HX.out.c 7 rfl;have z8:=HX.out.c 8 rfl;have z9:=HX.out.c 9 rfl;clear hR;go_enter Tryz.func164,Tryz.ntmps164;go_upto_region 1 with fail;rw [<-hW1,<-hg1];clear hW1 hg1;go_wp2_with fail;refine HNO.out.mono ?_;rintro e w3 ⟨rfl,hb⟩;have HB3:=h_ (HB.out.trans (hb.mono HB.out.size));clear hb HRI HNO HX;go_wp2_with fail;go_ret;exact ⟨by rw [HR.out];rfl,HB3.out⟩
 ·have HR:Hid (grd m=q1):=hR;have z3:=HX.out.c 3 rfl;have z4:=HX.out.c 4 rfl;have z5:=HX.out.c 5 rfl;have z6:=HX.out.c 6 rfl;have z7:=HX.out.c 7 rfl;have z8:=HX.out.c 8 rfl;have z9:=HX.out.c 9 rfl;clear hR;go_enter Tryz.func164,Tryz.ntmps164;go_upto_region 1 with fail;rw [<-hW1,<-hg1];clear hW1 hg1;go_wp2_with fail;refine HRI.out.mono ?_;rintro e w3 ⟨rfl,hb⟩;have HB3:=h_ (HB.out.trans (hb.mono HB.out.size));clear hb HRI HNO HX;go_wp2_with fail;go_ret;exact ⟨by rw [HR.out];rfl,HB3.out⟩
theorem bodiless_any (w:World) (k p:Int) (N0 I0 D0:ByteArray) (A1 A2 A3 A4:Option Addr) (n1 n2 n3 n4 c1 c2 c3 c4:Nat) :
  Calls Tryz.prog 89 #[.agg #[.int .i64 k,.string N0,.string I0,.string D0,.slice A1 n1 c1,.slice A2 n2 c2,.slice A3 n3 c3,.slice A4 n4 c4,.int .i64 p]] w λ e w'=>e=.returned (.bool (I0.toList.isEmpty&&((n1:Int)==0)&&((n2:Int)==0)&&((n3:Int)==0)&&((n4:Int)==0)))/\Below w.heap.size w w':=by
 obtain ⟨W1,hW1⟩:∃W,W=w.alloc (.cells #[.int .i64 k,.string N0,.string I0,.string D0,.slice A1 n1 c1,.slice A2 n2 c2,.slice A3 n3 c3,.slice A4 n4 c4,.int .i64 p] 27):=⟨_,rfl⟩
 obtain ⟨g1,hg1⟩:∃g,g=w.heap.size:=⟨_,rfl⟩
 have HB:Hid (Below w.heap.size w W1):=by rw [hW1];exact (b_ _ w).alloc (n_ _) _
 have HX:Hid (CB W1 g1 27 [.int .i64 k,.string N0,.string I0,.string D0,.slice A1 n1 c1,.slice A2 n2 c2,.slice A3 n3 c3,.slice A4 n4 c4,.int .i64 p]):=by rw [hW1,hg1];exact CB.new w _ [.int .i64 k,.string N0,.string I0,.string D0,.slice A1 n1 c1,.slice A2 n2 c2,.slice A3 n3 c3,.slice A4 n4 c4,.int .i64 p]
 obtain ⟨q1,hq1⟩:∃q:Bool,(I0.toList.isEmpty)=q:=⟨_,rfl⟩
 obtain ⟨q2,hq2⟩:∃q:Bool,((n1:Int)==0)=q:=⟨_,rfl⟩
 obtain ⟨q3,hq3⟩:∃q:Bool,((n2:Int)==0)=q:=⟨_,rfl⟩
 obtain ⟨q4,hq4⟩:∃q:Bool,((n3:Int)==0)=q:=⟨_,rfl⟩
 obtain ⟨q5,hq5⟩:∃q:Bool,((n4:Int)==0)=q:=⟨_,rfl⟩
 rw [hq1,hq2,hq3,hq4,hq5]
 have HR:Hid (True/\true=true):=⟨trivial,rfl⟩
 have z2:=HX.out.c 2 rfl;have z4:=HX.out.c 4 rfl;have z5:=HX.out.c 5 rfl;have z6:=HX.out.c 6 rfl;have z7:=HX.out.c 7 rfl;go_enter Tryz.func89,Tryz.ntmps89;go_upto_region 1 with fail;rw [<-hW1,<-hg1];clear hW1 hg1;cases q1
 ·go_wp2_with fail;go_ret;exact ⟨rfl,HB.out⟩
 ·cases q2
  ·go_wp2_with fail;go_ret;exact ⟨rfl,HB.out⟩
  ·cases q3
   ·go_wp2_with fail;go_ret;exact ⟨rfl,HB.out⟩
   ·cases q4
    ·go_wp2_with fail;go_ret;exact ⟨rfl,HB.out⟩
    ·cases q5
     ·go_wp2_with fail;go_ret;exact ⟨rfl,HB.out⟩
     ·go_wp2_with fail;go_ret;exact ⟨rfl,HB.out⟩
theorem count8_any (w:World) (b i:Nat) (x more most:Int) (hc:w.cell? ⟨b,i,none⟩=some (.int .i64 x)) (hf:w.frozen? ⟨b,i,none⟩=false) (h0:-9223372036854775808<=x+more) (h1:x+more<=9223372036854775807) :
  Calls Tryz.prog 87 #[.pointer (some ⟨b,i,none⟩),.int .i64 more,.int .i64 most] w λ e w'=>e=.returned (.bool (decide (x+more<=most)))/\w'=w.setCell ⟨b,i,none⟩ (.int .i64 (x+more)):=by
 obtain ⟨y,hy⟩:∃y,x+more=y:=⟨_,rfl⟩
 have HW:=h_ (Go.IntWalk.wrap64_in (x+more) ⟨h0,h1⟩);rw [hy] at HW ⊢
 obtain ⟨W1,hW1⟩:∃W,W=w.setCell ⟨b,i,none⟩ (.int .i64 y):=⟨_,rfl⟩
 have c1:W1.cell? ⟨b,i,none⟩=some (.int .i64 y):=by
  rw [hW1];exact World.cell?_setCell_same _ _ _ (by rw [hc])
 rw [<-hW1]
 obtain ⟨q,hq⟩:∃q:Bool,decide (y<=most)=q:=⟨_,rfl⟩
 rw [hq];clear h0 h1;go_enter Tryz.func87,Tryz.ntmps87;go_upto_region 2 with fail
 try rw [hy]
 try rw [HW.out]
 rw [<-hW1];clear hW1 hc hf hy;cases q
 ·go_wp2_with fail;go_ret;exact ⟨rfl,rfl⟩
 ·go_wp2_with fail;go_ret;exact ⟨rfl,rfl⟩
theorem notM_any (w:World) (b h:Nat) (k q p:Int) (S:ByteArray) (gd:Bool) (ev:EV) (A1 A2:Option Addr) (n1 n2 c1 c2:Nat) (r:Bool) (R:World->Prop) (hc:w.cell? ⟨h,0,none⟩=some (.func (.func 127) #[.pointer (some ⟨b,0,none⟩)] #[])) (hh:h<w.heap.size)
  (HF:Hid (∀W,Below w.heap.size w W->Calls Tryz.prog 127 #[.pointer (some ⟨b,0,none⟩),.agg #[.int .i64 k,.string S,.int .i64 q,.bool gd,.int .i64 ev.kind,.int .i64 ev.num,.string ev.name,.int .i64 ev.op,.slice ev.A ev.len ev.cap,.int .i64 ev.p,.slice A1 n1 c1,.slice A2 n2 c2,.int .i64 p]] W λ e w'=>e=.returned (.bool r)/\R w'/\Mv b W w')) :
  Calls Tryz.prog 162 #[.agg #[.int .i64 k,.string S,.int .i64 q,.bool gd,.int .i64 ev.kind,.int .i64 ev.num,.string ev.name,.int .i64 ev.op,.slice ev.A ev.len ev.cap,.int .i64 ev.p,.slice A1 n1 c1,.slice A2 n2 c2,.int .i64 p],.pointer (some ⟨h,0,none⟩)] w λ e w'=>e=.returned (.bool (!r))/\R w'/\Mv b w w':=by
 obtain ⟨W0,hW0⟩:∃W,W=w.alloc (.cells #[.int .i64 k,.string S,.int .i64 q,.bool gd,.int .i64 ev.kind,.int .i64 ev.num,.string ev.name,.int .i64 ev.op,.slice ev.A ev.len ev.cap,.int .i64 ev.p,.slice A1 n1 c1,.slice A2 n2 c2,.int .i64 p] 43):=⟨_,rfl⟩
 obtain ⟨g0,hg0⟩:∃g,g=w.heap.size:=⟨_,rfl⟩
 have HB:Hid (Below w.heap.size w W0):=by rw [hW0];exact (b_ _ w).alloc (n_ _) _
 have HX:Hid (CB W0 g0 43 [.int .i64 k,.string S,.int .i64 q,.bool gd,.int .i64 ev.kind,.int .i64 ev.num,.string ev.name,.int .i64 ev.op,.slice ev.A ev.len ev.cap,.int .i64 ev.p,.slice A1 n1 c1,.slice A2 n2 c2,.int .i64 p]):=by rw [hW0,hg0];exact CB.new w _ [.int .i64 k,.string S,.int .i64 q,.bool gd,.int .i64 ev.kind,.int .i64 ev.num,.string ev.name,.int .i64 ev.op,.slice ev.A ev.len ev.cap,.int .i64 ev.p,.slice A1 n1 c1,.slice A2 n2 c2,.int .i64 p]
 have c0:W0.cell? ⟨h,0,none⟩=some (.func (.func 127) #[.pointer (some ⟨b,0,none⟩)] #[]):=by rw [World.cell?_of_block (HB.out.block h hh)];exact hc
 have HC:=h_ (HF.out W0 HB.out);have z0:=HX.out.c 0 rfl;have z1:=HX.out.c 1 rfl;have z2:=HX.out.c 2 rfl;have z3:=HX.out.c 3 rfl;have z4:=HX.out.c 4 rfl;have z5:=HX.out.c 5 rfl;have z6:=HX.out.c 6 rfl;have z7:=HX.out.c 7 rfl;have z8:=HX.out.c 8 rfl;have z9:=HX.out.c 9 rfl;have z10:=HX.out.c 10 rfl;have z11:=HX.out.c 11 rfl;have z12:=HX.out.c 12 rfl;clear hc hh HF;go_enter Tryz.func162,Tryz.ntmps162;go_upto_region 1 with fail;rw [<-hW0,<-hg0];clear hW0 hg0;go_wp2_with fail;refine HC.out.mono ?_;rintro e w2 ⟨rfl,hr,hm⟩;have HR:=h_ hr;have HM2:=h_ ((Mv.of_below b HB.out).trans hm);clear hr hm HC HX z0 z1 z2 z3 z4 z5 z6 z7 z8 z9 z10 z11 z12 c0;go_wp2_with fail;go_ret;exact ⟨rfl,HR.out,HM2.out⟩
def allWM {α:Type} (w0:World) (b lvl:Nat) (step:Nat×Nat×Nat->α->Bool×(Nat×Nat×Nat)) (P:Nat×Nat×Nat->Prop) (l:List α) (v:Value):Prop:=∀(i:Nat) (a:α),l[i]?=some a->∃(g og c:Nat) (k q p:Int) (S:ByteArray) (gd:Bool) (ev:EV) (A1 A2:Option Addr) (n1 n2 c1 c2:Nat),v=.slice (some ⟨g,og,none⟩) l.length c/\g<w0.heap.size/\w0.cell? ⟨g,og+i*13,none⟩=some (.int .i64 k)/\w0.cell? ⟨g,og+i*13+1,none⟩=some (.string S)/\w0.cell? ⟨g,og+i*13+2,none⟩=some (.int .i64 q)/\w0.cell? ⟨g,og+i*13+3,none⟩=some (.bool gd)/\w0.cell? ⟨g,og+i*13+4,none⟩=some (.int .i64 ev.kind)/\w0.cell? ⟨g,og+i*13+5,none⟩=some (.int .i64 ev.num)/\w0.cell? ⟨g,og+i*13+6,none⟩=some (.string ev.name)/\w0.cell? ⟨g,og+i*13+7,none⟩=some (.int .i64 ev.op)/\w0.cell? ⟨g,og+i*13+8,none⟩=some (.slice ev.A ev.len ev.cap)/\w0.cell? ⟨g,og+i*13+9,none⟩=some (.int .i64 ev.p)/\w0.cell? ⟨g,og+i*13+10,none⟩=some (.slice A1 n1 c1)/\w0.cell? ⟨g,og+i*13+11,none⟩=some (.slice A2 n2 c2)/\w0.cell? ⟨g,og+i*13+12,none⟩=some (.int .i64 p) /\
 ∀W s,P s->KS w0 W b lvl s->Calls Tryz.prog 127 #[.pointer (some ⟨b,0,none⟩),.agg #[.int .i64 k,.string S,.int .i64 q,.bool gd,.int .i64 ev.kind,.int .i64 ev.num,.string ev.name,.int .i64 ev.op,.slice ev.A ev.len ev.cap,.int .i64 ev.p,.slice A1 n1 c1,.slice A2 n2 c2,.int .i64 p]] W λ e w'=>e=.returned (.bool (step s a).1)/\(KS w0 w' b lvl (step s a).2/\((step s a).1=true->P (step s a).2))/\Mv b W w'
theorem firstM_any {α:Type} (w0 w:World) (b lvl:Nat) (step:Nat×Nat×Nat->α->Bool×(Nat×Nat×Nat)) (P:Nat×Nat×Nat->Prop) (l:List α) (A:Option Addr) (c h n:Nat) (s0:Nat×Nat×Nat) (hn:l.length=n) (hm:n<=9223372036854775807) (H0:Hid (allWM w0 b lvl step P l (.slice A n c))) (hs:KS w0 w b lvl s0) (hP:P s0) (hc:w.cell? ⟨h,0,none⟩=some (.func (.func 127) #[.pointer (some ⟨b,0,none⟩)] #[])) (hh:h<w.heap.size) (hhb:h≠b) :
  Calls Tryz.prog 196 #[.slice A n c,.func (.func 162) #[] #[.pointer (some ⟨h,0,none⟩)]] w λ e w'=>∃r:Int,e=.returned (.int .i64 r)/\decide (0<=r)=!(foldS step s0 l).1/\(KS w0 w' b lvl (foldS step s0 l).2/\((foldS step s0 l).1=true->P (foldS step s0 l).2))/\Mv b w w':=by
 have HN:=h_ hn;have HM:=h_ hm;have HS:=h_ (And.intro hs hP);have HC0:=h_ (And.intro hc (And.intro hh hhb));clear hn hm hs hc hh hhb hP;go_enter Tryz.func196,Tryz.ntmps196;go_wp2_with fail
 go_loopw [8] (λ iv wr=>∃(i:Nat) (s:Nat×Nat×Nat),i<=n/\iv=.int .i64 (i:Int)/\Hid (foldS step s0 l=foldS step s (l.drop i))/\Hid (KS w0 wr b lvl s/\P s)/\Hid (Mv b w wr)) (λ iv _=>n-(intOf iv).toNat)
 case atStart=>exact ⟨0,s0,Nat.zero_le _,rfl,rfl,HS.out,Mv.refl b w⟩
 case round =>
  obtain ⟨i,s,hi,rfl,HT,HKS,HBW⟩:=hrel
  by_cases him:i<n
  ·have him':(i:Int)<n:=by omega
   have HIM:=h_ him
   obtain ⟨a,ha⟩:∃a,l[i]?=some a:=⟨_,List.getElem?_eq_getElem (by rw [HN.out];exact him)⟩
   have hyc:=H0.out i a ha;rw [HN.out] at hyc;obtain ⟨g,og,c',k,q,p,S,gd,ev,A1,A2,n1,n2,c1,c2,hv,hg,y0,y1,y2,y3,y4,y5,y6,y7,y8,y9,y10,y11,y12,hcall⟩:=hyc
   obtain rfl:A=some ⟨g,og,none⟩:=by injection hv
   have hbw:Below w0.heap.size w0 wr:=HKS.out.1.1
   have kb:∀{p:Addr} {u:Value},w0.cell? p=some u->wr.cell? p=some u:=λ hc=>by rw [World.cell?_of_block (hbw.block _ (World.block_lt_of_cell? w0 _ hc))];exact hc
   have u0:=kb y0;have u1:=kb y1;have u2:=kb y2;have u3:=kb y3;have u4:=kb y4;have u5:=kb y5;have u6:=kb y6;have u7:=kb y7;have u8:=kb y8;have u9:=kb y9;have u10:=kb y10;have u11:=kb y11;have u12:=kb y12;have HCL:=h_ (notM_any wr b h k q p S gd ev A1 A2 n1 n2 c1 c2 (step s a).1 (λ w'=>KS w0 w' b lvl (step s a).2/\((step s a).1=true->P (step s a).2)) (by rw [World.cell?_of_block (HBW.out.block HC0.out.2.1 HC0.out.2.2)];exact HC0.out.1) (Nat.lt_of_lt_of_le HC0.out.2.1 HBW.out.size) (h_ (λ W hb=>hcall W s HKS.out.2 (HKS.out.1.below hb))))
   have HFD:Hid (foldS step s0 l=if (step s a).1=true then foldS step (step s a).2 (l.drop (i+1)) else (false,(step s a).2)):=by
    show _=_;rw [HT.out,drop_cons2 ha];rfl
   obtain ⟨r,hr⟩:∃r,(step s a).1=r:=⟨_,rfl⟩
   rw [hr] at HCL HFD
   obtain ⟨s2,hs2⟩:∃s2,(step s a).2=s2:=⟨_,rfl⟩
   rw [hs2] at HCL HFD;clear ha hv hg hcall hbw kb hr hs2 HT y0 y1 y2 y3 y4 y5 y6 y7 y8 y9 y10 y11 y12;cases r
   ·go_wp2_with fail;refine HCL.out.mono ?_;rintro e w2 ⟨rfl,hk,hb⟩;have HB2:=h_ (HBW.out.trans hb);have HK2:=h_ hk.1;clear hb hk HCL u0 u1 u2 u3 u4 u5 u6 u7 u8 u9 u10 u11 u12 HBW HKS;go_wp2_with fail;go_ret;refine ⟨_,rfl,?_,?_,HB2.out⟩
    ·rw [HFD.out];simp
    ·rw [HFD.out];exact ⟨HK2.out,λ h=>by simp at h⟩
   ·go_wp2_with fail;refine HCL.out.mono ?_;rintro e w2 ⟨rfl,hk,hb⟩;have HB2:=h_ (HBW.out.trans hb);have HK2:=h_ (And.intro hk.1 (hk.2 trivial));clear hb hk HCL u0 u1 u2 u3 u4 u5 u6 u7 u8 u9 u10 u11 u12 HBW HKS;go_wp2_with fail
    go_roundw
    case rel=>exact ⟨i+1,s2,by have:=HIM.out;omega,by have h1:=HIM.out;have h2:=HM.out;rw [Go.IntWalk.wrap64_in _ ⟨by omega,by omega⟩];rfl,HFD.out,HK2,HB2⟩
    case measure=>have h1:=HIM.out;have h2:=HM.out;rw [Go.IntWalk.wrap64_in _ ⟨by omega,by omega⟩];simp [intOf];omega
  ·have him':¬(i:Int)<n:=by omega
   have HALL:Hid (foldS step s0 l=(true,s)):=by
    show _=_;rw [HT.out,List.drop_eq_nil_of_le (by rw [HN.out];omega)];rfl
   clear hi;go_wp2_with fail;go_ret;refine ⟨_,rfl,?_,?_,HBW.out⟩
   ·rw [HALL.out];rfl
   ·rw [HALL.out];exact ⟨HKS.out.1,λ _=>HKS.out.2⟩
theorem contM_any {α:Type} (w0 w:World) (b lvl:Nat) (step:Nat×Nat×Nat->α->Bool×(Nat×Nat×Nat)) (P:Nat×Nat×Nat->Prop) (l:List α) (A:Option Addr) (c h n:Nat) (s0:Nat×Nat×Nat) (R1:Bool) (R2:Nat×Nat×Nat) (hR:foldS step s0 l=(R1,R2)) (hn:l.length=n) (hm:n<=9223372036854775807) (H0:Hid (allWM w0 b lvl step P l (.slice A n c))) (hs:KS w0 w b lvl s0) (hP:P s0) (hc:w.cell? ⟨h,0,none⟩=some (.func (.func 127) #[.pointer (some ⟨b,0,none⟩)] #[])) (hh:h<w.heap.size) (hhb:h≠b) :
  Calls Tryz.prog 161 #[.slice A n c,.func (.func 162) #[] #[.pointer (some ⟨h,0,none⟩)]] w λ e w'=>e=.returned (.bool (!R1))/\(KS w0 w' b lvl R2/\(R1=true->P R2))/\Mv b w w':=by
 have HC:=h_ (firstM_any w0 w b lvl step P l A c h n s0 hn hm H0 hs hP hc hh hhb);rw [hR] at HC;simp only at HC;clear hn hm H0 hs hP hc hh hhb hR;go_enter Tryz.func161,Tryz.ntmps161;go_wp2_with fail;refine HC.out.mono ?_;rintro e w2 ⟨r,rfl,hr,hb⟩;have HB9:=h_ hb;have HR9:=h_ hr;clear hb hr HC;go_wp2_with fail;go_ret;refine ⟨?_,HB9.out⟩;rw [<-HR9.out];rfl
theorem everyM_any {α:Type} (w0 w:World) (b lvl:Nat) (step:Nat×Nat×Nat->α->Bool×(Nat×Nat×Nat)) (P:Nat×Nat×Nat->Prop) (l:List α) (A:Option Addr) (c n:Nat) (s0:Nat×Nat×Nat) (hn:l.length=n) (hm:n<=9223372036854775807) (H0:Hid (allWM w0 b lvl step P l (.slice A n c))) (hs:KS w0 w b lvl s0) (hP:P s0) :
  Calls Tryz.prog 126 #[.slice A n c,.func (.func 127) #[.pointer (some ⟨b,0,none⟩)] #[]] w λ e w'=>e=.returned (.bool (foldS step s0 l).1)/\(KS w0 w' b lvl (foldS step s0 l).2/\((foldS step s0 l).1=true->P (foldS step s0 l).2))/\Mv b w w':=by
 obtain ⟨W0,hW0⟩:∃W,W=w.alloc (.cells #[.func (.func 127) #[.pointer (some ⟨b,0,none⟩)] #[]] 45):=⟨_,rfl⟩
 obtain ⟨g0,hg0⟩:∃g,g=w.heap.size:=⟨_,rfl⟩
 have HB:Hid (Below w.heap.size w W0):=by rw [hW0];exact (b_ _ w).alloc (n_ _) _
 have HX:Hid (CB W0 g0 45 [.func (.func 127) #[.pointer (some ⟨b,0,none⟩)] #[]]):=by rw [hW0,hg0];exact CB.new w _ [.func (.func 127) #[.pointer (some ⟨b,0,none⟩)] #[]]
 have hne:g0≠b:=by have:=hs.2.lt;omega
 obtain ⟨⟨R1,R2⟩,hR⟩:∃R,foldS step s0 l=R:=⟨_,rfl⟩
 have HC:=h_ (contM_any w0 W0 b lvl step P l A c g0 n s0 R1 R2 hR hn hm H0 (hs.below HB.out) hP (HX.out.c 0 rfl) HX.out.lt hne);rw [hR];simp only;clear hn hm H0 hR HX hs hP hne;go_enter Tryz.func126,Tryz.ntmps126;go_upto_region 1 with fail;rw [<-hW0,<-hg0];clear hW0 hg0;go_wp2_with fail;refine HC.out.mono ?_;rintro e w2 ⟨rfl,hk,hb⟩;have HB9:=h_ ((Mv.of_below b HB.out).trans hb);have HK9:=h_ hk;clear hb hk HC;go_wp2_with fail;go_ret;exact ⟨by cases R1 <;> rfl,HK9.out,HB9.out⟩
end Go.Proofs.YtpgeidpfhakgaaaGreatDoor
