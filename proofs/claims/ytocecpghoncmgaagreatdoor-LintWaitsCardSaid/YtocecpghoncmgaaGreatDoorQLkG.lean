import Derived.Test.YtocecpghoncmgaaGreatDoorQh
import Derived.Test.YtocecpghoncmgaaGreatDoorQPkA
import Derived.Test.YtocecpghoncmgaaGreatDoorQPrD
import Derived.Laws.AppendOwn
import Derived.Laws.OwnMore
import Derived.BigQuiet
import Derived.Deep.QuietTactic
import Derived.Deep.RegionWith
set_option maxHeartbeats 12800000
set_option maxRecDepth 20000
namespace Go.Proofs.YtocecpghoncmgaaGreatDoor
open Go.RowKit
structure LP where
 lv:Value
 sv:Value
 bV:Nat
 bP:Nat
def LS (w0 w1 w:World) (b:Nat) (P:LP) (f:Int×Int):Prop:=Below w0.heap.size w0 w/\Mv b w1 w/\CB w b 69 [P.lv,P.sv,.map (some P.bV),.map (some P.bP),.int .i64 f.1,.int .i64 f.2]
theorem LS.below {w0 w1 w w':World} {b:Nat} {P:LP} {f:Int×Int} (h:LS w0 w1 w b P f) (hb:Below w.heap.size w w'):LS w0 w1 w' b P f:=⟨h.1.trans (hb.mono h.1.size),h.2.1.trans (Mv.of b hb),h.2.2.below hb⟩
theorem LS.put {w0 w1 w:World} {b:Nat} {P:LP} {f:Int×Int} (h:LS w0 w1 w b P f) (lb:w0.heap.size<=b) (c p:Int):LS w0 w1 ((w.setCell ⟨b,4,none⟩ (.int .i64 c)).setCell ⟨b,5,none⟩ (.int .i64 p)) b P (c,p) :=
 ⟨(h.1.setCell lb _).setCell lb _,(h.2.1.set 4 _).set 5 _,(h.2.2.set 4 _).set 5 _⟩
structure NdR (w0 w:World) (g:Nat) (L:List GN):Prop where
 lt:g<w.heap.size
 at_:∀(i:Nat) (x:GN),L[i]?=some x->∃xs,DxsAt w0 (gNode x) xs/\∀j u,xs[j]?=some u->w.cell? ⟨g,i*9+j,none⟩=some u
theorem NdR.same {w0 w w':World} {g:Nat} {L:List GN} (h:NdR w0 w g L) (hz:w.heap.size<=w'.heap.size) (hs:w'.heap[g]?=w.heap[g]?):NdR w0 w' g L :=
 ⟨Nat.lt_of_lt_of_le h.lt hz,λ i x hx=>by
  obtain ⟨xs,h1,h2⟩:=h.at_ i x hx
  exact ⟨xs,h1,λ j u hu=>by rw [World.cell?_of_block hs];exact h2 j u hu⟩⟩
structure LF (w0 w1:World) (b:Nat) (P:LP) (L:List GN) (F:List Spt) (V:List (List UInt8)):Prop where
 lb:w0.heap.size<=b
 list:∃g c,P.lv=.slice (some ⟨g,0,none⟩) L.length c/\g≠b/\NdR w0 w1 g L
 sp:∃g c,P.sv=.slice (some ⟨g,0,none⟩) F.length c/\g≠b/\SpR w1 g F
 va:∃n f,IdxAt w1 P.bV n f/\P.bV≠b/\∀s,(f s).isSome=vrF V s
 pl:∃n,IdxAt w1 P.bP n (findN F)/\P.bP≠b
 fits:FitL L F
 fo:Fo F
 len:L.length<=64
 ok:∀x∈L,∃e,okN e x=true
 rng:∀x∈L,x.rng
variable {w0 w1 w:World} {b:Nat} {P:LP} {L:List GN} {F:List Spt} {V:List (List UInt8)} {f:Int×Int}
theorem LF.list' (h:LF w0 w1 b P L F V) (s:LS w0 w1 w b P f):∃g c,P.lv=.slice (some ⟨g,0,none⟩) L.length c/\g≠b/\NdR w0 w g L:=by
 obtain ⟨g,c,h1,h2,h3⟩:=h.list;exact ⟨g,c,h1,h2,h3.same s.2.1.size (s.2.1.block h3.lt h2)⟩
theorem LF.sp' (h:LF w0 w1 b P L F V) (s:LS w0 w1 w b P f):∃g c,P.sv=.slice (some ⟨g,0,none⟩) F.length c/\g≠b/\SpR w g F:=by
 obtain ⟨g,c,h1,h2,h3⟩:=h.sp;exact ⟨g,c,h1,h2,h3.same s.2.1.size (s.2.1.block h3.lt h2)⟩
theorem LF.va' (h:LF w0 w1 b P L F V) (s:LS w0 w1 w b P f):∃n f,IdxAt w P.bV n f/\∀s,(f s).isSome=vrF V s:=by
 obtain ⟨n,f,h1,h2,h3⟩:=h.va;exact ⟨n,f,h1.same (s.2.1.block h1.lt h2),h3⟩
theorem LF.pl' (h:LF w0 w1 b P L F V) (s:LS w0 w1 w b P f):∃n,IdxAt w P.bP n (findN F):=by
 obtain ⟨n,h1,h2⟩:=h.pl;exact ⟨n,h1.same (s.2.1.block h1.lt h2)⟩
theorem LF.kd (h:LF w0 w1 b P L F V):Kd F:=Kd.of h.fits h.ok
theorem lrequire_any (w0 w1 w:World) (b:Nat) (P:LP) (f:Int×Int) (q:Bool) (c p:Int) (h:LS w0 w1 w b P f) (lb:w0.heap.size<=b) :
  Calls Tryz.prog 48 #[.pointer (some ⟨b,4,none⟩),.bool q,.int .i64 c,.int .i64 p] w λ e w'=>e=.returned (.tuple #[])/\LS w0 w1 w' b P (adv f (if q=true then [] else [(c,p)]))/\Mv b w w':=by
 rw [adv_one];obtain ⟨f1,f2⟩:=f;have x4:=h.2.2.c 4 rfl;have x5:=h.2.2.c 5 rfl;have r4:=h.2.2.fr 4;have r5:=h.2.2.fr 5;simp only at x4 x5 ⊢;have HH:=h_ h;have HP:=h_ (h.put lb c p);have HM:Hid (Mv b w ((w.setCell ⟨b,4,none⟩ (.int .i64 c)).setCell ⟨b,5,none⟩ (.int .i64 p))):=((Mv.refl b w).set 4 _).set 5 _;clear h
 cases q with
 |true =>
  go_enter Tryz.func48,Tryz.ntmps48;go_wp2_with fail;go_end0;exact ⟨rfl,HH.out,Mv.refl b w⟩
 |false =>
  by_cases z:f1=0
  ·subst z;go_enter Tryz.func48,Tryz.ntmps48;go_wp2_with fail;go_end0;exact ⟨rfl,HP.out,HM.out⟩
  ·have z':(f1==0)=false:=by simpa using z
   have HZ:=h_ z;clear z;go_enter Tryz.func48,Tryz.ntmps48;go_wp2_with fail
   all_goals
    go_end0;exact ⟨rfl,HH.out,Mv.refl b w⟩
theorem lisstate_any (w:World) (v1 v2 v3 v4 v5 v6 v7 v8:Value) (k:Int) (ho:∀u∈[v1,v2,v3,v4,v5,v6,v7,v8],u.oneCell'=true) :
  Calls Tryz.prog 91 #[.agg #[.int .i64 k,v1,v2,v3,v4,v5,v6,v7,v8]] w λ e w'=>e=.returned (.bool (isSt k))/\Below w.heap.size w w':=by
 obtain ⟨W1,hW1⟩:∃W,W=w.alloc (.cells #[.int .i64 k,v1,v2,v3,v4,v5,v6,v7,v8] 27):=⟨_,rfl⟩
 obtain ⟨g1,hg1⟩:∃g,g=w.heap.size:=⟨_,rfl⟩
 have HB:Hid (Below w.heap.size w W1):=by rw [hW1];exact (b_ _ w).alloc (n_ _) _
 have HX:Hid (CB W1 g1 27 [.int .i64 k,v1,v2,v3,v4,v5,v6,v7,v8]):=by rw [hW1,hg1];exact CB.new w _ [.int .i64 k,v1,v2,v3,v4,v5,v6,v7,v8]
 have z0:=HX.out.c 0 rfl;have o1:=ho v1 (by simp);have o2:=ho v2 (by simp);have o3:=ho v3 (by simp);have o4:=ho v4 (by simp);have o5:=ho v5 (by simp);have o6:=ho v6 (by simp);have o7:=ho v7 (by simp);have o8:=ho v8 (by simp)
 obtain ⟨q1,hq1⟩:∃q,(k==1)=q:=⟨_,rfl⟩
 obtain ⟨q2,hq2⟩:∃q,(k==2)=q:=⟨_,rfl⟩
 have HR:Hid (isSt k=(q1 || q2)):=by
  show _=_;unfold isSt;rw [dec_beq,dec_beq,hq1,hq2]
 clear ho;go_enter Tryz.func91,Tryz.ntmps91;go_upto_region 1 with fail;rw [<-hW1,<-hg1];clear hW1 hg1 o1 o2 o3 o4 o5 o6 o7 o8
 cases q1 with
 |true =>
  go_wp2_with fail;go_ret;exact ⟨by rw [HR.out];rfl,HB.out⟩
 |false =>
  go_wp2_with fail;go_ret;exact ⟨by rw [HR.out];rfl,HB.out⟩
end Go.Proofs.YtocecpghoncmgaaGreatDoor
namespace Go.Proofs.YtocecpghoncmgaaGreatDoor
open Go.RowKit
def IsR (w:World) (base:Nat) (v:Value) (l:List Int):Prop:=w.ownsRow base 3 1 v l.length (l.map (.int .i64))
theorem IsR.at_ {w:World} {base:Nat} {v:Value} {l:List Int} (h:IsR w base v l):∃A c,v=.slice A l.length c/\l.length<=c/\c<=maxLen/\IntAt w A l:=by
 rcases h.2 with ⟨rfl,h2⟩|⟨g,cap,cur,rfl,hb,hg,hn,hm,hs,ht⟩
 ·refine ⟨none,0,by rw [h2],by omega,by decide,λ i n hi=>?_⟩;rw [List.eq_nil_of_length_eq_zero h2] at hi;simp at hi
 ·refine ⟨some ⟨g,0,none⟩,cap,rfl,hn,hm,λ i n hi=>⟨g,0,rfl,(Array.getElem?_eq_some_iff.1 hg).1,?_⟩⟩;have hlt:=(List.getElem?_eq_some_iff.1 hi).1;rw [cell_of_row w g _ _ _ _ hg,Nat.zero_add,<-Array.getElem?_toList];rw [Nat.mul_one] at ht
  have e:(cur.toList.take l.length)[i]?=some (.int .i64 n):=by rw [ht,List.getElem?_map,hi];rfl
  rw [List.getElem?_take] at e;rw [if_pos hlt] at e;exact e
theorem infoInt9:(Tryz.prog.info? 3).map (λ i=>(i.zero,i.size,i.bytes))=some (some (.int .i64 0),1,8):=by kernel_rfl
theorem wpl_append_i9 {w:World} {ops:Array Oper} {rest:List Oper} {o:Oper} {a:Act} {Q:Exit->Act->World->Prop} (hgd:o.guard=none) (s x:Operand)
  (ho:o.op=.call { callee:=.builtin .append,args:=#[s,x],argTypes:=#[78,78] })
  (base:Nat) (v:Value) (xs:List Int) (hs:a.eval s=v) (hown:IsR w base v xs)
  (u:Int) (hx:a.eval x=.slice (some ⟨w.heap.size,0,none⟩) 1 1) (hn:xs.length<=1000000000) (hbase:base<=w.heap.size)
  (h:∀v' w',IsR w' base v' (xs++[u])->Below base w w'->wpList Tryz.prog ops Q rest (a.put o.dst v') w') :
  wpList Tryz.prog ops Q (o::rest) a (w.alloc (.cells #[.int .i64 u] 3)):=by
 obtain ⟨i0,hi,hz0,hz1,hz2⟩:=info_parts infoInt9;refine wpList_append_own _ hgd s x 78 ho base 3 i0 (.int .i64 0) 1 8 Tryz.underlying78 hi hz0 hz1 hz2 rfl (by decide) v xs.length _ hs (World.ownsRow.alloc hown _) ⟨w.heap.size,0,none⟩ 1 1 [.int .i64 u] hx rfl ?_ ?_ (by unfold maxLen;omega) (by omega) (by simp;omega) ?_
 ·intro i y hy
  match i,hy with
  |0,hy=>simp at hy;subst hy;simp [Addr.add]
 ·intro y hy;simp at hy;subst hy;rfl
 ·intro v' w' h1 h2 _;refine h v' w' ?_ (((b_ base w).alloc hbase _).grown h2 (by simp;omega) (λ k h=>(World.ownsRow.lt hown k h).1));unfold IsR;rw [List.map_append,List.length_append];exact h1
theorem fcovers_any (w:World) (g c:Nat) (F:List Spt) (m:Int) (A:Option Addr) (n cn:Nat) (ns:List Int) (h:SpR w g F) (hl:ns.length=n) (hc:n<=cn/\cn<=maxLen) (hA:IntAt w A ns) :
  Calls Tryz.prog 254 #[.slice (some ⟨g,0,none⟩) F.length c,.int .i64 m,.slice A n cn] w λ e w'=>e=.returned (.bool (covF F m ns))/\w'=w:=by
 have HW:=h_ (λ (b:Int)=>flwithin_any w g c F b m h);have HH:=h_ (fhas_any w (some ⟨g,0,none⟩) F.length c m);have HX:Hid (covF F m ns=(ns.all (λ n=>onW F n m)&&(decide (0<=m)&&decide (m<(F.length:Int))))):=rfl
 obtain ⟨X,hX⟩:∃X,covF F m ns=X:=⟨_,rfl⟩
 obtain ⟨N,hN⟩:∃N,F.length=N:=⟨_,rfl⟩
 obtain ⟨q,hq⟩:∃q,(decide (0<=m)&&decide (m<(N:Int)))=q:=⟨_,rfl⟩
 rw [hX,hN,hq] at HX;rw [hN,hq] at HH;simp only [hN] at HW;rw [hX,hN];have HL:=h_ hl
 have HC:Hid (n<=9223372036854775807):=by
  have:maxLen<=9223372036854775807:=by decide
  show _<=_;omega
 have HA:=h_ hA;clear hX hN hq hl hc hA h;go_enter Tryz.func254,Tryz.ntmps254;go_wp2_with fail
 go_loopw [11] (λ iv wr=>∃i:Nat,i<=n/\iv=.int .i64 (i:Int)/\Hid (wr=w)/\Hid ((ns.take i).all (λ n=>onW F n m)=true)) (λ iv _=>n-(intOf iv).toNat)
 case atStart=>exact ⟨0,Nat.zero_le _,rfl,h_ rfl,h_ rfl⟩
 case round =>
  obtain ⟨i,hi,rfl,HWW,HI⟩:=hrel;obtain rfl:wr=w:=HWW.out
  by_cases him:i<n
  ·have HIM:=h_ him
   have him':(i:Int)<n:=by omega
   obtain ⟨x,hx⟩:∃x,ns[i]?=some x:=⟨_,List.getElem?_eq_getElem (by rw [HL.out];exact him)⟩
   obtain ⟨g1,o1,rfl,_,x0⟩:=HA.out i x hx
   have HT:Hid (ns.take (i+1)=ns.take i++[x]):=by show _=_;rw [List.take_add_one,hx];rfl
   have HM:Hid (x∈ns):=List.mem_of_getElem? hx;clear hx
   by_cases hxm:x=m
   ·have HS:Hid ((ns.take (i+1)).all (λ n=>onW F n m)=true):=by
     show _=_;rw [HT.out,List.all_append,HI.out];unfold onW;simp [hxm]
    clear HT HM HI
    have hb:(x != m)=false:=by simp [hxm]
    clear hxm;go_wp2_with fail;exact ⟨⟨i+1,by have:=HIM.out;omega,by have h1:=HIM.out;have h2:=HC.out;rw [Go.IntWalk.wrap64_in _ ⟨by omega,by omega⟩];rfl,h_ trivial,HS⟩,by have h1:=HIM.out;have h2:=HC.out;rw [Go.IntWalk.wrap64_in _ ⟨by omega,by omega⟩];simp [intOf];omega⟩
   ·have hb:(x != m)=true:=by simp [hxm]
    have HO:Hid (onW F x m=inW F x m):=by show _=_;unfold onW;rw [decide_eq_false hxm,Bool.false_or]
    clear hxm;have HV:=h_ (HW.out x)
    obtain ⟨d,hd⟩:∃d,inW F x m=d:=⟨_,rfl⟩
    rw [hd] at HV HO;clear HW hd
    cases d with
    |true =>
     have HS:Hid ((ns.take (i+1)).all (λ n=>onW F n m)=true):=by
      show _=_;rw [HT.out,List.all_append,HI.out];simp [HO.out]
     clear HT HM HI HO;go_wp2_with fail;refine HV.out.mono ?_;rintro e w1 ⟨rfl,rfl⟩;go_wp2_with fail;exact ⟨⟨i+1,by have:=HIM.out;omega,by have h1:=HIM.out;have h2:=HC.out;rw [Go.IntWalk.wrap64_in _ ⟨by omega,by omega⟩];rfl,h_ trivial,HS⟩,by have h1:=HIM.out;have h2:=HC.out;rw [Go.IntWalk.wrap64_in _ ⟨by omega,by omega⟩];simp [intOf];omega⟩
    |false =>
     have HS:Hid (X=false):=by
      show _=_;rw [HX.out]
      have:ns.all (λ n=>onW F n m)=false:=by
       rw [List.all_eq_false];exact ⟨x,HM.out,by simp [HO.out]⟩
      rw [this];rfl
     clear HT HM HI HO HX;go_wp2_with fail;refine HV.out.mono ?_;rintro e w1 ⟨rfl,rfl⟩;go_wp2_with fail;go_ret;exact ⟨by obtain rfl:=HS.out;rfl,rfl⟩
  ·have him':¬(i:Int)<n:=by omega
   have HS:Hid (X=q):=by
    show _=_;have e:=HI.out;rw [List.take_of_length_le (by rw [HL.out];omega)] at e;rw [HX.out,e,Bool.true_and]
   clear HX HI HW;go_wp2_with fail;refine HH.out.mono ?_;rintro e w1 ⟨rfl,rfl⟩;go_wp2_with fail;go_ret;exact ⟨by obtain rfl:=HS.out;rfl,rfl⟩
end Go.Proofs.YtocecpghoncmgaaGreatDoor
namespace Go.Proofs.YtocecpghoncmgaaGreatDoor
open Go.RowKit
theorem fmeet_any (w:World) (g c:Nat) (F:List Spt) (A:Option Addr) (n cn:Nat) (ns:List Int) (h:SpR w g F) (hl:ns.length=n) (hc:n<=cn/\cn<=maxLen) (hA:IntAt w A ns) :
  Calls Tryz.prog 205 #[.slice (some ⟨g,0,none⟩) F.length c,.slice A n cn] w λ e w'=>e=.returned (.int .i64 (meetF F ns))/\w'=w:=by
 have HP:=h_ (λ (b:Int)=>fparent_any w g c F b h);have HC:=h_ (λ (b:Int)=>fcovers_any w g c F b A n cn ns h hl hc hA)
 cases ns with
 |nil =>
  have h0:n=0:=hl.symm;subst h0;clear h hl hc hA HP HC;go_enter Tryz.func205,Tryz.ntmps205;go_wp2_with fail;go_ret;exact ⟨rfl,rfl⟩
 |cons n0 l =>
  obtain ⟨ga,oa,rfl,_,z0⟩:=hA 0 n0 rfl;rw [Nat.add_zero] at z0
  have hn0:¬n=0:=by rw [<-hl];simp
  have hn1:(0:Int)<(n:Int):=by omega
  have hnm:(n:Int)<=9223372036854775807:=by
   have:maxLen<=9223372036854775807:=by decide
   omega
  have HX:Hid (meetF F (n0::l)=goF F (n0::l) n0):=rfl
  obtain ⟨X,hX⟩:∃X,meetF F (n0::l)=X:=⟨_,rfl⟩
  obtain ⟨N,hN⟩:∃N,F.length=N:=⟨_,rfl⟩
  obtain ⟨L,hL⟩:∃L,n0::l=L:=⟨_,rfl⟩
  rw [hX,hL] at HX;rw [hL] at HC;rw [hX];simp only [hN] at HP HC ⊢
  have hz:((n:Int)==0)=false:=by simp;omega
  clear hX hN hL h hl hc hA hn0;go_enter Tryz.func205,Tryz.ntmps205;go_wp2_with fail
  go_loopw [5] (λ iv wr=>∃(m:Int),iv=.int .i64 m/\Hid (goF F L m=X)/\Hid (wr=w)) (λ iv _=>(intOf iv+1).toNat)
  case atStart=>exact ⟨n0,rfl,h_ HX.out.symm,h_ rfl⟩
  case round =>
   obtain ⟨m,rfl,HD,HWW⟩:=hrel;obtain rfl:wr=w:=HWW.out
   by_cases hm:m<0
   ·have hm':¬(0:Int)<=m:=by omega
    have hm'':decide ((0:Int)<=m)=false:=by simp;omega
    have HE:Hid (X=-1):=by
     show _=_;rw [<-HD.out];exact goF_neg hm
    have hmx:m<=-1:=by omega
    clear HD HP HX hm HC;go_wp2_with fail;go_ret;refine ⟨?_,rfl⟩;obtain rfl:=HE.out;show Ending.returned (.int .i64 (max m (-1)))=_;rw [Int.max_eq_right hmx]
   ·have hm':(0:Int)<=m:=by omega
    have HV:=h_ (HC.out m)
    obtain ⟨d,hd⟩:∃d,covF F m L=d:=⟨_,rfl⟩
    rw [hd] at HV
    cases d with
    |true =>
     have HE:Hid (X=m):=by
      show _=_;rw [<-HD.out];exact goF_yes hd
     clear HD HP HX hm hd HC;go_wp2_with fail;refine HV.out.mono ?_;rintro e w1 ⟨rfl,rfl⟩;go_wp2_with fail;go_ret;refine ⟨?_,rfl⟩;obtain rfl:=HE.out;show Ending.returned (.int .i64 (max X (-1)))=_;rw [Int.max_eq_left (by omega)]
    |false =>
     have HE:Hid (goF F L (parF F m)=X):=by
      show _=_;rw [<-HD.out];exact (goF_no hd).symm
     have HLT:Hid (parF F m<m):=by
      show _<_
      by_cases hp:parF F m<0
      ·omega
      ·exact (parF_lt (by omega)).1
     clear HD HX hm hd HC;go_wp2_with fail;refine HV.out.mono ?_;rintro e w1 ⟨rfl,rfl⟩;go_wp2_with fail;refine (HP.out m).mono ?_;rintro e w2 ⟨rfl,rfl⟩;go_wp2_with fail;exact ⟨⟨_,rfl,HE,h_ trivial⟩,by have:=HLT.out;simp [intOf];omega⟩
theorem fmeet_new (w:World) (g c:Nat) (F:List Spt) (ns:List Int) (h:SpR w g F) (hl:ns.length<=100) :
  Calls Tryz.prog 205 #[.slice (some ⟨g,0,none⟩) F.length c,.slice (some ⟨w.heap.size,0,none⟩) ns.length ns.length] (w.alloc (.cells (ns.map (Value.int .i64)).toArray 3)) λ e w'=>e=.returned (.int .i64 (meetF F ns))/\Below w.heap.size w w':=by
 have hb:Below w.heap.size w (w.alloc (.cells (ns.map (Value.int .i64)).toArray 3)):=(b_ _ w).alloc (n_ _) _;refine (fmeet_any _ g c F (some ⟨w.heap.size,0,none⟩) ns.length ns.length ns (h.below hb) rfl ⟨n_ _,by unfold maxLen;omega⟩ (λ i n hi=>⟨w.heap.size,0,rfl,by simp,?_⟩)).mono ?_
 ·rw [cell_of_row _ _ _ _ _ _ (heap_alloc_new w _),Nat.zero_add,t_,List.getElem?_map,hi];rfl
 ·rintro e w' ⟨rfl,rfl⟩;exact ⟨rfl,hb⟩
end Go.Proofs.YtocecpghoncmgaaGreatDoor
namespace Go.Proofs.YtocecpghoncmgaaGreatDoor
open Go.RowKit
theorem notN_any (w:World) (b h:Nat) (k p:Int) (S1 S2 S3:ByteArray) (A1 A2 A3 A4:Option Addr) (n1 n2 n3 n4 c1 c2 c3 c4:Nat) (r:Bool) (R:World->Prop) (hc:w.cell? ⟨h,0,none⟩=some (.func (.func 83) #[.pointer (some ⟨b,0,none⟩)] #[])) (hh:h<w.heap.size)
  (HF:Hid (∀W,Below w.heap.size w W->Calls Tryz.prog 83 #[.pointer (some ⟨b,0,none⟩),.agg #[.int .i64 k,.string S1,.string S2,.string S3,.slice A1 n1 c1,.slice A2 n2 c2,.slice A3 n3 c3,.slice A4 n4 c4,.int .i64 p]] W λ e w'=>e=.returned (.bool r)/\R w'/\Mv b W w')) :
  Calls Tryz.prog 246 #[.agg #[.int .i64 k,.string S1,.string S2,.string S3,.slice A1 n1 c1,.slice A2 n2 c2,.slice A3 n3 c3,.slice A4 n4 c4,.int .i64 p],.pointer (some ⟨h,0,none⟩)] w λ e w'=>e=.returned (.bool (!r))/\R w'/\Mv b w w':=by
 obtain ⟨W0,hW0⟩:∃W,W=w.alloc (.cells #[.int .i64 k,.string S1,.string S2,.string S3,.slice A1 n1 c1,.slice A2 n2 c2,.slice A3 n3 c3,.slice A4 n4 c4,.int .i64 p] 27):=⟨_,rfl⟩
 obtain ⟨g0,hg0⟩:∃g,g=w.heap.size:=⟨_,rfl⟩
 have HB:Hid (Below w.heap.size w W0):=by rw [hW0];exact (b_ _ w).alloc (n_ _) _
 have HX:Hid (CB W0 g0 27 [.int .i64 k,.string S1,.string S2,.string S3,.slice A1 n1 c1,.slice A2 n2 c2,.slice A3 n3 c3,.slice A4 n4 c4,.int .i64 p]):=by rw [hW0,hg0];exact CB.new w _ [.int .i64 k,.string S1,.string S2,.string S3,.slice A1 n1 c1,.slice A2 n2 c2,.slice A3 n3 c3,.slice A4 n4 c4,.int .i64 p]
 have c0:W0.cell? ⟨h,0,none⟩=some (.func (.func 83) #[.pointer (some ⟨b,0,none⟩)] #[]):=by rw [World.cell?_of_block (HB.out.block h hh)];exact hc
 have HC:=h_ (HF.out W0 HB.out);have z0:=HX.out.c 0 rfl;have z1:=HX.out.c 1 rfl;have z2:=HX.out.c 2 rfl;have z3:=HX.out.c 3 rfl;have z4:=HX.out.c 4 rfl;have z5:=HX.out.c 5 rfl;have z6:=HX.out.c 6 rfl;have z7:=HX.out.c 7 rfl;have z8:=HX.out.c 8 rfl;clear hc hh HF;go_enter Tryz.func246,Tryz.ntmps246;go_upto_region 1 with fail;rw [<-hW0,<-hg0];clear hW0 hg0;go_wp2_with fail;refine HC.out.mono ?_;rintro e w2 ⟨rfl,hr,hm⟩;have HR:=h_ hr;have HM2:=h_ ((Mv.of_below b HB.out).trans hm);clear hr hm HC HX z0 z1 z2 z3 z4 z5 z6 z7 z8 c0;go_wp2_with fail;go_ret;exact ⟨rfl,HR.out,HM2.out⟩
def allWN {α:Type} (w0:World) (b lvl:Nat) (step:Nat×Nat×Nat->α->Bool×(Nat×Nat×Nat)) (P:Nat×Nat×Nat->Prop) (l:List α) (v:Value):Prop:=∀(i:Nat) (a:α),l[i]?=some a->∃(g og c:Nat) (k p:Int) (S1 S2 S3:ByteArray) (A1 A2 A3 A4:Option Addr) (n1 n2 n3 n4 c1 c2 c3 c4:Nat),v=.slice (some ⟨g,og,none⟩) l.length c/\g<w0.heap.size/\w0.cell? ⟨g,og+i*9,none⟩=some (.int .i64 k)/\w0.cell? ⟨g,og+i*9+1,none⟩=some (.string S1)/\w0.cell? ⟨g,og+i*9+2,none⟩=some (.string S2)/\w0.cell? ⟨g,og+i*9+3,none⟩=some (.string S3)/\w0.cell? ⟨g,og+i*9+4,none⟩=some (.slice A1 n1 c1)/\w0.cell? ⟨g,og+i*9+5,none⟩=some (.slice A2 n2 c2)/\w0.cell? ⟨g,og+i*9+6,none⟩=some (.slice A3 n3 c3)/\w0.cell? ⟨g,og+i*9+7,none⟩=some (.slice A4 n4 c4)/\w0.cell? ⟨g,og+i*9+8,none⟩=some (.int .i64 p) /\
 ∀W s,P s->KS w0 W b lvl s->Calls Tryz.prog 83 #[.pointer (some ⟨b,0,none⟩),.agg #[.int .i64 k,.string S1,.string S2,.string S3,.slice A1 n1 c1,.slice A2 n2 c2,.slice A3 n3 c3,.slice A4 n4 c4,.int .i64 p]] W λ e w'=>e=.returned (.bool (step s a).1)/\(KS w0 w' b lvl (step s a).2/\((step s a).1=true->P (step s a).2))/\Mv b W w'
theorem firstN_any {α:Type} (w0 w:World) (b lvl:Nat) (step:Nat×Nat×Nat->α->Bool×(Nat×Nat×Nat)) (P:Nat×Nat×Nat->Prop) (l:List α) (A:Option Addr) (c h n:Nat) (s0:Nat×Nat×Nat) (hn:l.length=n) (hm:n<=9223372036854775807) (H0:Hid (allWN w0 b lvl step P l (.slice A n c))) (hs:KS w0 w b lvl s0) (hP:P s0) (hc:w.cell? ⟨h,0,none⟩=some (.func (.func 83) #[.pointer (some ⟨b,0,none⟩)] #[])) (hh:h<w.heap.size) (hhb:h≠b) :
  Calls Tryz.prog 202 #[.slice A n c,.func (.func 246) #[] #[.pointer (some ⟨h,0,none⟩)]] w λ e w'=>∃r:Int,e=.returned (.int .i64 r)/\decide (0<=r)=!(foldS step s0 l).1/\(KS w0 w' b lvl (foldS step s0 l).2/\((foldS step s0 l).1=true->P (foldS step s0 l).2))/\Mv b w w':=by
 have HN:=h_ hn;have HM:=h_ hm;have HS:=h_ (And.intro hs hP);have HC0:=h_ (And.intro hc (And.intro hh hhb));clear hn hm hs hc hh hhb hP;go_enter Tryz.func202,Tryz.ntmps202;go_wp2_with fail
 go_loopw [8] (λ iv wr=>∃(i:Nat) (s:Nat×Nat×Nat),i<=n/\iv=.int .i64 (i:Int)/\Hid (foldS step s0 l=foldS step s (l.drop i))/\Hid (KS w0 wr b lvl s/\P s)/\Hid (Mv b w wr)) (λ iv _=>n-(intOf iv).toNat)
 case atStart=>exact ⟨0,s0,Nat.zero_le _,rfl,rfl,HS.out,Mv.refl b w⟩
 case round =>
  obtain ⟨i,s,hi,rfl,HT,HKS,HBW⟩:=hrel
  by_cases him:i<n
  ·have him':(i:Int)<n:=by omega
   have HIM:=h_ him
   obtain ⟨a,ha⟩:∃a,l[i]?=some a:=⟨_,List.getElem?_eq_getElem (by rw [HN.out];exact him)⟩
   have hyc:=H0.out i a ha;rw [HN.out] at hyc;obtain ⟨g,og,c',k,p,S1,S2,S3,A1,A2,A3,A4,n1,n2,n3,n4,c1,c2,c3,c4,hv,hg,y0,y1,y2,y3,y4,y5,y6,y7,y8,hcall⟩:=hyc
   obtain rfl:A=some ⟨g,og,none⟩:=by injection hv
   have hbw:Below w0.heap.size w0 wr:=HKS.out.1.1
   have kb:∀{p:Addr} {u:Value},w0.cell? p=some u->wr.cell? p=some u:=λ hc=>by rw [World.cell?_of_block (hbw.block _ (World.block_lt_of_cell? w0 _ hc))];exact hc
   have u0:=kb y0;have u1:=kb y1;have u2:=kb y2;have u3:=kb y3;have u4:=kb y4;have u5:=kb y5;have u6:=kb y6;have u7:=kb y7;have u8:=kb y8;have HCL:=h_ (notN_any wr b h k p S1 S2 S3 A1 A2 A3 A4 n1 n2 n3 n4 c1 c2 c3 c4 (step s a).1 (λ w'=>KS w0 w' b lvl (step s a).2/\((step s a).1=true->P (step s a).2)) (by rw [World.cell?_of_block (HBW.out.block HC0.out.2.1 HC0.out.2.2)];exact HC0.out.1) (Nat.lt_of_lt_of_le HC0.out.2.1 HBW.out.size) (h_ (λ W hb=>hcall W s HKS.out.2 (HKS.out.1.below hb))))
   have HFD:Hid (foldS step s0 l=if (step s a).1=true then foldS step (step s a).2 (l.drop (i+1)) else (false,(step s a).2)):=by
    show _=_;rw [HT.out,drop_cons2 ha];rfl
   obtain ⟨r,hr⟩:∃r,(step s a).1=r:=⟨_,rfl⟩
   rw [hr] at HCL HFD
   obtain ⟨s2,hs2⟩:∃s2,(step s a).2=s2:=⟨_,rfl⟩
   rw [hs2] at HCL HFD;clear ha hv hg hcall hbw kb hr hs2 HT y0 y1 y2 y3 y4 y5 y6 y7 y8;cases r
   ·go_wp2_with fail;refine HCL.out.mono ?_;rintro e w2 ⟨rfl,hk,hb⟩;have HB2:=h_ (HBW.out.trans hb);have HK2:=h_ hk.1;clear hb hk HCL u0 u1 u2 u3 u4 u5 u6 u7 u8 HBW HKS;go_wp2_with fail;go_ret;refine ⟨_,rfl,?_,?_,HB2.out⟩
    ·rw [HFD.out];simp
    ·rw [HFD.out];exact ⟨HK2.out,λ h=>by simp at h⟩
   ·go_wp2_with fail;refine HCL.out.mono ?_;rintro e w2 ⟨rfl,hk,hb⟩;have HB2:=h_ (HBW.out.trans hb);have HK2:=h_ (And.intro hk.1 (hk.2 trivial));clear hb hk HCL u0 u1 u2 u3 u4 u5 u6 u7 u8 HBW HKS;go_wp2_with fail
    go_roundw
    case rel=>exact ⟨i+1,s2,by have:=HIM.out;omega,by have h1:=HIM.out;have h2:=HM.out;rw [Go.IntWalk.wrap64_in _ ⟨by omega,by omega⟩];rfl,HFD.out,HK2,HB2⟩
    case measure=>have h1:=HIM.out;have h2:=HM.out;rw [Go.IntWalk.wrap64_in _ ⟨by omega,by omega⟩];simp [intOf];omega
  ·have him':¬(i:Int)<n:=by omega
   have HALL:Hid (foldS step s0 l=(true,s)):=by
    show _=_;rw [HT.out,List.drop_eq_nil_of_le (by rw [HN.out];omega)];rfl
   clear hi;go_wp2_with fail;go_ret;refine ⟨_,rfl,?_,?_,HBW.out⟩
   ·rw [HALL.out];rfl
   ·rw [HALL.out];exact ⟨HKS.out.1,λ _=>HKS.out.2⟩
theorem contN_any {α:Type} (w0 w:World) (b lvl:Nat) (step:Nat×Nat×Nat->α->Bool×(Nat×Nat×Nat)) (P:Nat×Nat×Nat->Prop) (l:List α) (A:Option Addr) (c h n:Nat) (s0:Nat×Nat×Nat) (R1:Bool) (R2:Nat×Nat×Nat) (hR:foldS step s0 l=(R1,R2)) (hn:l.length=n) (hm:n<=9223372036854775807) (H0:Hid (allWN w0 b lvl step P l (.slice A n c))) (hs:KS w0 w b lvl s0) (hP:P s0) (hc:w.cell? ⟨h,0,none⟩=some (.func (.func 83) #[.pointer (some ⟨b,0,none⟩)] #[])) (hh:h<w.heap.size) (hhb:h≠b) :
  Calls Tryz.prog 147 #[.slice A n c,.func (.func 246) #[] #[.pointer (some ⟨h,0,none⟩)]] w λ e w'=>e=.returned (.bool (!R1))/\(KS w0 w' b lvl R2/\(R1=true->P R2))/\Mv b w w':=by
 have HC:=h_ (firstN_any w0 w b lvl step P l A c h n s0 hn hm H0 hs hP hc hh hhb);rw [hR] at HC;simp only at HC;clear hn hm H0 hs hP hc hh hhb hR;go_enter Tryz.func147,Tryz.ntmps147;go_wp2_with fail;refine HC.out.mono ?_;rintro e w2 ⟨r,rfl,hr,hb⟩;have HB9:=h_ hb;have HR9:=h_ hr;clear hb hr HC;go_wp2_with fail;go_ret;refine ⟨?_,HB9.out⟩;rw [<-HR9.out];rfl
theorem everyN_any {α:Type} (w0 w:World) (b lvl:Nat) (step:Nat×Nat×Nat->α->Bool×(Nat×Nat×Nat)) (P:Nat×Nat×Nat->Prop) (l:List α) (A:Option Addr) (c n:Nat) (s0:Nat×Nat×Nat) (hn:l.length=n) (hm:n<=9223372036854775807) (H0:Hid (allWN w0 b lvl step P l (.slice A n c))) (hs:KS w0 w b lvl s0) (hP:P s0) :
  Calls Tryz.prog 195 #[.slice A n c,.func (.func 83) #[.pointer (some ⟨b,0,none⟩)] #[]] w λ e w'=>e=.returned (.bool (foldS step s0 l).1)/\(KS w0 w' b lvl (foldS step s0 l).2/\((foldS step s0 l).1=true->P (foldS step s0 l).2))/\Mv b w w':=by
 obtain ⟨W0,hW0⟩:∃W,W=w.alloc (.cells #[.func (.func 83) #[.pointer (some ⟨b,0,none⟩)] #[]] 151):=⟨_,rfl⟩
 obtain ⟨g0,hg0⟩:∃g,g=w.heap.size:=⟨_,rfl⟩
 have HB:Hid (Below w.heap.size w W0):=by rw [hW0];exact (b_ _ w).alloc (n_ _) _
 have HX:Hid (CB W0 g0 151 [.func (.func 83) #[.pointer (some ⟨b,0,none⟩)] #[]]):=by rw [hW0,hg0];exact CB.new w _ [.func (.func 83) #[.pointer (some ⟨b,0,none⟩)] #[]]
 have hne:g0≠b:=by have:=hs.2.lt;omega
 obtain ⟨⟨R1,R2⟩,hR⟩:∃R,foldS step s0 l=R:=⟨_,rfl⟩
 have HC:=h_ (contN_any w0 W0 b lvl step P l A c g0 n s0 R1 R2 hR hn hm H0 (hs.below HB.out) hP (HX.out.c 0 rfl) HX.out.lt hne);rw [hR];simp only;clear hn hm H0 hR HX hs hP hne;go_enter Tryz.func195,Tryz.ntmps195;go_upto_region 1 with fail;rw [<-hW0,<-hg0];clear hW0 hg0;go_wp2_with fail;refine HC.out.mono ?_;rintro e w2 ⟨rfl,hk,hb⟩;have HB9:=h_ ((Mv.of_below b HB.out).trans hb);have HK9:=h_ hk;clear hb hk HC;go_wp2_with fail;go_ret;exact ⟨by cases R1 <;> rfl,HK9.out,HB9.out⟩
end Go.Proofs.YtocecpghoncmgaaGreatDoor
namespace Go.Proofs.YtocecpghoncmgaaGreatDoor
open Go.RowKit Go.Maps
variable {w0 w1 w:World} {b:Nat} {P:LP} {L:List GN} {F:List Spt} {V:List (List UInt8)} {f:Int×Int}
theorem int_lit {a c:Int} (h:(DataW.lit (Lit.int .i64 a):DataW Unit)=.lit (.int .i64 c)):a=c:=by
 injection h with h;injection h
theorem NdR.cells {g:Nat} (h:NdR w0 w g L) {i:Nat} {x:GN} (hx:L[i]?=some x):∃v1 v2 v3 v4 v5 v6 v7 v8,(∀u∈[v1,v2,v3,v4,v5,v6,v7,v8],u.oneCell'=true)/\w.cell? ⟨g,i*9,none⟩=some (.int .i64 x.kind)/\w.cell? ⟨g,i*9+1,none⟩=some v1/\w.cell? ⟨g,i*9+2,none⟩=some v2/\w.cell? ⟨g,i*9+3,none⟩=some v3/\w.cell? ⟨g,i*9+4,none⟩=some v4/\w.cell? ⟨g,i*9+5,none⟩=some v5/\w.cell? ⟨g,i*9+6,none⟩=some v6/\w.cell? ⟨g,i*9+7,none⟩=some v7/\w.cell? ⟨g,i*9+8,none⟩=some v8:=by
 obtain ⟨xs,hd,hc⟩:=h.at_ i x hx;have ho:=hd.ones;obtain ⟨k,nm,ini,dft,en,le,mo,ks,p⟩:=x;obtain ⟨A1,A2,A3,A4,c1,c2,c3,c4,rfl,_⟩:=node_v hd;exact ⟨_,_,_,_,_,_,_,_,λ u hu=>ho u (List.mem_cons_of_mem _ hu),hc 0 _ rfl,hc 1 _ rfl,hc 2 _ rfl,hc 3 _ rfl,hc 4 _ rfl,hc 5 _ rfl,hc 6 _ rfl,hc 7 _ rfl,hc 8 _ rfl⟩
theorem lvar_any (hF:LF w0 w1 b P L F V) (h:LS w0 w1 w b P f) (s:ByteArray) (hs:s.size<=140737488351232) :
  Calls Tryz.prog 88 #[.map (some P.bV),.string s] w λ e w'=>e=.returned (.bool (vrF V s.data.toList))/\w'=w:=by
 obtain ⟨n,fv,h1,h2⟩:=hF.va' h;rw [<-h2];exact ihas_any w P.bV n fv s h1 (by unfold maxLen;omega)
theorem lstate_any (hF:LF w0 w1 b P L F V) (h:LS w0 w1 w b P f) (s:ByteArray) (hs:s.size<=140737488351232) :
  Calls Tryz.prog 93 #[.pointer (some ⟨b,0,none⟩),.string s] w λ e w'=>e=.returned (.int .i64 (stI F s.data.toList))/\Below w.heap.size w w':=by
 obtain ⟨n,D,hM,_,hD⟩:=hF.pl' h;have HM:=h_ hM;have HK:=h_ (Go.WideMaps.keyOf_string_mk (P:=Tryz.prog) Tryz.underlying9 (s:=s) (by unfold maxLen;omega));obtain ⟨hD1,hD2⟩:=hD s.data.toList
 obtain ⟨T,hT⟩:∃T,s.data.toList=T:=⟨_,rfl⟩
 rw [hT] at hD1 hD2 HK ⊢;have x3:=h.2.2.c 3 rfl
 cases hf:findN F T with
 |none =>
  have HR:Hid (stI F T=-1):=by show _=_;unfold stI;rw [hf]
  rw [hf] at hD1;have HD1:=h_ hD1;clear hD1 hD2 hf hM h hF hs hT;go_enter Tryz.func93,Tryz.ntmps93;go_wp2_with (first|(at_lookup;refine wpList_lookup_own_ok_int _ rfl _ _ 63 rfl 9 3 .i64 kLaw Tryz.underlying63 Tryz.underlying3 (kZero _) P.bP n _ rfl HM.out _ _ rfl HK.out ?_;intro c hat hwc;rw [HD1.out,Option.isSome_none];clear hat hwc)|go_in);go_ret;exact ⟨by rw [HR.out];rfl,b_ _ w⟩
 |some i =>
  obtain ⟨sp,hsp⟩:=find_get hf;have hlt:=find_lt hf;rw [hF.fits.len] at hlt
  obtain ⟨x,hx⟩:∃x,L[i]?=some x:=⟨_,List.getElem?_eq_getElem hlt⟩
  obtain ⟨t,ht,hk,_⟩:=hF.fits.at_ hx
  obtain rfl:sp=t:=by rw [hsp] at ht;injection ht
  obtain ⟨q,hq⟩:∃q,isSt x.kind=q:=⟨_,rfl⟩
  have HR:Hid (stI F T=if q=true then (i:Int) else -1):=by show _=_;unfold stI;rw [hf];simp only [hsp,hk,hq]
  rw [hf] at hD1;have HD:=h_ (And.intro hD1 (hD2 i hf));obtain ⟨g,c,hlv,hgb,hnd⟩:=hF.list' h;obtain ⟨v1,v2,v3,v4,v5,v6,v7,v8,ho,u0,u1,u2,u3,u4,u5,u6,u7,u8⟩:=hnd.cells hx;have HS:=h_ (lisstate_any w v1 v2 v3 v4 v5 v6 v7 v8 x.kind ho);rw [hq] at HS;have x0:=h.2.2.c 0 rfl;rw [hlv] at x0
  have hi0:(0:Int)<=(i:Int):=by omega
  have hi1:(i:Int)<(L.length:Int):=by omega
  have hll:=hF.len
  have hi2:(L.length:Int)<=9223372036854775807:=by omega
  obtain ⟨N,hN⟩:∃N,L.length=N:=⟨_,rfl⟩
  rw [hN] at x0 hi1 hi2
  obtain ⟨K,hK⟩:∃K,x.kind=K:=⟨_,rfl⟩
  rw [hK] at u0 HS;clear hD1 hD2 hf hM h hF hs hT hsp hlt hx ht hk hq hlv hgb hnd ho hll hN hK;go_enter Tryz.func93,Tryz.ntmps93;go_wp2_with (first|(at_lookup;refine wpList_lookup_own_ok_int _ rfl _ _ 63 rfl 9 3 .i64 kLaw Tryz.underlying63 Tryz.underlying3 (kZero _) P.bP n _ rfl HM.out _ _ rfl HK.out ?_;intro c hat hwc;rw [HD.out.1,Option.isSome_some];obtain rfl:=int_lit (HD.out.2.symm.trans hat);clear hat hwc)|fail);refine HS.out.mono ?_;rintro e w2 ⟨rfl,hb⟩;have HB:=h_ hb;clear hb HS u0 u1 u2 u3 u4 u5 u6 u7 u8 x0 x3
  cases q with
  |true =>
   go_wp2_with fail;go_ret;exact ⟨by rw [HR.out];rfl,HB.out⟩
  |false =>
   go_wp2_with fail;go_ret;exact ⟨by rw [HR.out];rfl,HB.out⟩
end Go.Proofs.YtocecpghoncmgaaGreatDoor
namespace Go.Proofs.YtocecpghoncmgaaGreatDoor
open Go.RowKit
def LEx (w0 w1:World) (b:Nat) (P:LP) (V:List (List UInt8)) (F:List Spt) (x:GX):Prop:=x.rng->∀(w:World) (f:Int×Int) (v:EV),GV w0 0 w0.heap.size x v->LS w0 w1 w b P f ->
 Calls Tryz.prog 94 #[.pointer (some ⟨b,0,none⟩),v.val] w λ e w'=>e=.returned (.tuple #[])/\LS w0 w1 w' b P (adv f (exF V F x))/\Mv b w w'
def oeF (V:List (List UInt8)) (F:List Spt) (k:Int) (nm:List UInt8) (p:Int):List (Int×Int):=if (k=2/\vrF V nm=false)∨(k=3/\stF F nm=false) then [(23,p)] else []
theorem oeF_ne (V:List (List UInt8)) (F:List Spt) (k:Int) (nm:List UInt8) (p:Int):∀x∈oeF V F k nm p,x.1≠0:=λ x hx=>by
 unfold oeF at hx
 split at hx
 ·rw [List.mem_singleton.1 hx];simp
 ·cases hx
theorem lexpr_step {w0 w1:World} {b:Nat} {P:LP} {L:List GN} {V:List (List UInt8)} {F:List Spt} (hF:LF w0 w1 b P L F V) (x:GX) (ih:∀(i:Nat) (z:GX),x.subs[i]?=some z->LEx w0 w1 b P V F z):LEx w0 w1 b P V F x:=by
 intro hrx w f v hx h
 obtain ⟨W0,hW0⟩:∃W,W=w.alloc (.cells #[.int .i64 v.kind,.int .i64 v.num,.string v.name,.int .i64 v.op,.slice v.A v.len v.cap,.int .i64 v.p] 55):=⟨_,rfl⟩
 obtain ⟨g1,hg1⟩:∃g,g=w.heap.size:=⟨_,rfl⟩
 have hal:Below w.heap.size w W0:=by rw [hW0];exact (b_ _ w).alloc (n_ _) _
 have HX:Hid (CB W0 g1 55 [.int .i64 v.kind,.int .i64 v.num,.string v.name,.int .i64 v.op,.slice v.A v.len v.cap,.int .i64 v.p]):=by rw [hW0,hg1];exact CB.new w _ [.int .i64 v.kind,.int .i64 v.num,.string v.name,.int .i64 v.op,.slice v.A v.len v.cap,.int .i64 v.p]
 have HGB:Hid (g1≠b):=by have:=h.2.2.lt;rw [hg1];exact λ e=>by omega
 have HS0:=h_ (h.below hal);have HM0:=h_ (Mv.of b hal);have hlen:=hx.leneq;have hcap:=hx.lecap;have hcm:v.cap<=maxLen:=hx.out.2.2.2.2.2.2.2.1
 have HCM:Hid (v.len<=9223372036854775807):=by unfold maxLen at hcm;exact Nat.le_trans hcap (by omega)
 obtain ⟨k,n,s,o,l,p⟩:=x;have hrx':=hrx;rw [GX.rng] at hrx';have HROW:=h_ hx.out.2.2.2.2.2.2.2.2;obtain ⟨e1,e2,e3,e4,e5,e6⟩:=hx.out;have a1:k=v.kind:=e1.symm;have a3:v.name.data.toList=s:=e3;have a5:p=v.p:=e5.symm;clear e1 e2 e3 e4 e5 e6
 have hs:v.name.size<=140737488351232:=by
  have h1:=hrx'.2.2.1;rw [<-a3] at h1;exact h1
 have HIH:=h_ (λ (i:Nat) (z:GX) (h:l[i]?=some z)=>ih i z h (rng_get hrx'.2.2.2 h));have HLN:Hid (v.len=l.length):=hlen
 have HE:Hid (exF V F (.mk k n s o l p)=oeF V F k s p++exsF V F l):=by show _=_;rw [exF];rfl
 obtain ⟨E,hE⟩:∃E,exF V F (.mk k n s o l p)=E:=⟨_,rfl⟩
 rw [hE] at HE ⊢;have HLB:=h_ hF.lb;have HVA:=h_ (λ (W:World) (g:Int×Int) (hk:LS w0 w1 W b P g)=>lvar_any hF hk v.name hs);have HST:=h_ (λ (W:World) (g:Int×Int) (hk:LS w0 w1 W b P g)=>lstate_any hF hk v.name hs);rw [a3] at HVA HST;have HK:=h_ hF.kd;obtain ⟨vk,num,S,op,A,len,cap,vp⟩:=v;simp only [EV.val] at hW0 HX HVA HST HROW HLN HCM a1 a3 a5 ⊢;subst vk;subst vp
 obtain ⟨q1,hq1⟩:∃q,vrF V s=q:=⟨_,rfl⟩
 obtain ⟨I,hI⟩:∃I,stI F s=I:=⟨_,rfl⟩
 have hIs:stF F s=decide (I ≥ 0):=by rw [<-hI,<-stI_is hF.kd]
 have HOE:Hid (oeF V F k s p=if (k=2/\q1=false)∨(k=3/\decide (I ≥ 0)=false) then [(23,p)] else []):=by
  show _=_;unfold oeF;rw [hq1,hIs]
 rw [hq1] at HVA;rw [hI] at HST
 have HRQ:Hid (∀(q:Bool) (w6:World),Hid (LS w0 w1 w6 b P f/\Mv b w w6/\CB w6 g1 55 [.int .i64 k,.int .i64 num,.string S,.int .i64 op,.slice A len cap,.int .i64 p])->Calls Tryz.prog 48 #[.pointer (some ⟨b,4,none⟩),.bool q,.int .i64 23,.int .i64 p] w6 λ e w'=>e=.returned (.tuple #[])/\(w'.cell? ⟨g1,2,none⟩=some (.string S)/\w'.cell? ⟨g1,5,none⟩=some (.int .i64 p)/\w'.cell? ⟨b,2,none⟩=some (.map (some P.bV)))/\Hid (LS w0 w1 w' b P (adv f (if q=true then [] else [(23,p)]))/\Mv b w w'/\CB w' g1 55 [.int .i64 k,.int .i64 num,.string S,.int .i64 op,.slice A len cap,.int .i64 p])):=by
  rintro q w6 ⟨h1,h2,h3⟩;refine (lrequire_any w0 w1 w6 b P f q 23 p h1 HLB.out).mono ?_;rintro e w' ⟨rfl,h4,h5⟩;have c:=h3.mv h5 HGB.out;exact ⟨rfl,⟨c.c 2 rfl,c.c 5 rfl,h4.2.2.c 2 rfl⟩,h4,h2.trans h5,c⟩
 have HVd:Hid (Calls Tryz.prog 88 #[.map (some P.bV),.string S] W0.drew λ e w'=>e=.returned (.bool q1)/\(w'.cell? ⟨g1,2,none⟩=some (.string S)/\w'.cell? ⟨g1,5,none⟩=some (.int .i64 p)/\w'.cell? ⟨b,2,none⟩=some (.map (some P.bV)))/\Hid (LS w0 w1 w' b P f/\Mv b w w'/\CB w' g1 55 [.int .i64 k,.int .i64 num,.string S,.int .i64 op,.slice A len cap,.int .i64 p])):=by
  have hd:Below W0.heap.size W0 W0.drew:=(b_ _ W0).drew;have hk:=HS0.out.below hd;refine (HVA.out _ _ hk).mono ?_;rintro e w' ⟨rfl,rfl⟩;have c:=HX.out.drew;exact ⟨rfl,⟨c.c 2 rfl,c.c 5 rfl,hk.2.2.c 2 rfl⟩,hk,HM0.out.trans (Mv.of b hd),c⟩
 have HSd:Hid (Calls Tryz.prog 93 #[.pointer (some ⟨b,0,none⟩),.string S] W0.drew λ e w'=>e=.returned (.int .i64 I)/\(w'.cell? ⟨g1,2,none⟩=some (.string S)/\w'.cell? ⟨g1,5,none⟩=some (.int .i64 p)/\w'.cell? ⟨b,2,none⟩=some (.map (some P.bV)))/\Hid (LS w0 w1 w' b P f/\Mv b w w'/\CB w' g1 55 [.int .i64 k,.int .i64 num,.string S,.int .i64 op,.slice A len cap,.int .i64 p])):=by
  have hd:Below W0.heap.size W0 W0.drew:=(b_ _ W0).drew;have hk:=HS0.out.below hd;refine (HST.out _ _ hk).mono ?_;rintro e w' ⟨rfl,hb⟩;have c:=HX.out.drew.below hb;have hk2:=hk.below hb;exact ⟨rfl,⟨c.c 2 rfl,c.c 5 rfl,hk2.2.2.c 2 rfl⟩,hk2,HM0.out.trans (Mv.of b (hd.trans hb)),c⟩
 have HIN:Hid (∀z,z∈oeF V F k s p->z.1≠0):=oeF_ne V F k s p;have HEL:Hid (∀(z:GX),∀y∈exF V F z,y.1≠0):=exF_ne V F
 obtain ⟨O,hO⟩:∃O,oeF V F k s p=O:=⟨_,rfl⟩
 rw [hO] at HE HOE HIN;have hW0b:=HS0.out.1.size;have HB0:=h_ hW0b;have z0:=HX.out.c 0 rfl;have z2:=HX.out.c 2 rfl;have z5:=HX.out.c 5 rfl;have y2:=HS0.out.2.2.c 2 rfl;clear hrx hx h hlen hcap hcm hrx' hs a3 ih hE hal hF hq1 hI hIs HVA HST hO hW0b;go_enter Tryz.func94,Tryz.ntmps94;go_upto_region 1 with fail;rw [<-hW0,<-hg1];clear hW0 hg1
 obtain ⟨d2,hd2⟩:∃d,(k==2)=d:=⟨_,rfl⟩
 go_upto_block 0 with fail
 go_cut [7] from 8 to 36 (λ s7 wr=>Hid (LS w0 w1 wr b P (adv f O)/\Mv b w wr/\CB wr g1 55 [.int .i64 k,.int .i64 num,.string S,.int .i64 op,.slice A len cap,.int .i64 p]))
 case first =>
  cases d2
  ·have hk2:¬k=2:=by simpa using hd2
   obtain ⟨d3,hd3⟩:∃d,(k==3)=d:=⟨_,rfl⟩
   cases d3
   ·have hk3:¬k=3:=by simpa using hd3
    have HO:Hid (O=[]):=by show _=_;rw [HOE.out];simp [hk2,hk3]
    clear hk2 hk3 HVd HSd HRQ;go_wp2_with fail
    go_meet
    rw [HO.out,adv_nil];exact ⟨HS0.out,HM0.out,HX.out⟩
   ·have hk3:k=3:=by simpa using hd3
    have HO:Hid (O=if decide (I ≥ 0)=true then [] else [(23,p)]):=by
     show _=_;rw [HOE.out]
     cases decide (I ≥ 0) <;> simp [hk3]
    clear hk2 hk3 HVd;go_upto_region 5 with fail
    go_region_held3 (λ W=>W.cell? ⟨g1,2,none⟩=some (.string S)/\W.cell? ⟨g1,5,none⟩=some (.int .i64 p)/\W.cell? ⟨b,2,none⟩=some (.map (some P.bV))) (go_keep) (first|(go_at_call 93;refine HSd.out.mono ?_;rintro e w5 ⟨rfl,⟨x1,x2,x3⟩,HQ5⟩)|(go_at_call 48;refine (HRQ.out _ _ HQ5).mono ?_;rintro e w6 ⟨rfl,⟨v1,v2,v3⟩,HF6⟩))
    all_goals
     have HF7:=h_ HF6.out;clear x1 x2 x3 v1 v2 v3 HQ5 HF6 HSd HRQ z0 z2 z5 y2;go_wp2_with fail
     go_meet
     rw [HO.out];exact HF7.out
  ·have hk2:k=2:=by simpa using hd2
   have HO:Hid (O=if q1=true then [] else [(23,p)]):=by
    show _=_;rw [HOE.out]
    cases q1 <;> simp [hk2]
   clear hk2 HSd;go_upto_region 3 with fail
   go_region_held3 (λ W=>W.cell? ⟨g1,2,none⟩=some (.string S)/\W.cell? ⟨g1,5,none⟩=some (.int .i64 p)/\W.cell? ⟨b,2,none⟩=some (.map (some P.bV))) (go_keep) (first|(go_at_call 88;refine HVd.out.mono ?_;rintro e w5 ⟨rfl,⟨x1,x2,x3⟩,HQ5⟩)|(go_at_call 48;refine (HRQ.out _ _ HQ5).mono ?_;rintro e w6 ⟨rfl,⟨v1,v2,v3⟩,HF6⟩))
   all_goals
    have HF7:=h_ HF6.out;clear x1 x2 x3 v1 v2 v3 HQ5 HF6 HVd HRQ z0 z2 z5 y2;go_wp2_with fail
    go_meet
    rw [HO.out];exact HF7.out
 case rest =>
 have HQ:=h_ hcut;clear hcut z0 z2 z5 y2 hd2 HVd HSd HRQ HS0 HM0 HOE;have z4:=HQ.out.out.2.2.c 4 rfl;go_wp2_with fail
 go_loopw [40] (λ iv wr=>∃(i:Nat) (fi:Int×Int),i<=len/\iv=.int .i64 (i:Int)/\Hid (LS w0 w1 wr b P fi/\Mv b w wr/\adv fi (exsF V F (l.drop i))=adv f E)) (λ iv _=>len-(intOf iv).toNat)
 case atStart=>exact ⟨0,_,Nat.zero_le _,rfl,HQ.out.out.1,HQ.out.out.2.1,by rw [List.drop_zero,<-adv_app f _ HIN.out,<-HE.out]⟩
 case round =>
  obtain ⟨i,fi,hi,rfl,HM⟩:=hrel
  by_cases him:i<len
  ·have HIM:=h_ him
   have him':(i:Int)<len:=by omega
   obtain ⟨z,hz⟩:∃z,l[i]?=some z:=⟨_,List.getElem?_eq_getElem (by rw [<-HLN.out];exact him)⟩
   obtain ⟨go,o',v',rfl,_,hgo,hev,hgv⟩:=HROW.out.get i z hz;rw [Nat.zero_add] at hev;obtain ⟨x0,x1,x2,x3,x4,x5⟩:=hev.same (HM.out.1.1.block go hgo)
   obtain ⟨W5,hW5⟩:∃W,W=wr.alloc (.cells #[.int .i64 v'.kind,.int .i64 v'.num,.string v'.name,.int .i64 v'.op,.slice v'.A v'.len v'.cap,.int .i64 v'.p] 55):=⟨_,rfl⟩
   obtain ⟨g5,hg5⟩:∃g,g=wr.heap.size:=⟨_,rfl⟩
   have hal5:Below wr.heap.size wr W5:=by rw [hW5];exact (b_ _ wr).alloc (n_ _) _
   have HX5:Hid (CB W5 g5 55 [.int .i64 v'.kind,.int .i64 v'.num,.string v'.name,.int .i64 v'.op,.slice v'.A v'.len v'.cap,.int .i64 v'.p]):=by rw [hW5,hg5];exact CB.new wr _ [.int .i64 v'.kind,.int .i64 v'.num,.string v'.name,.int .i64 v'.op,.slice v'.A v'.len v'.cap,.int .i64 v'.p]
   have HC:=h_ (HIH.out i z hz W5 fi v' hgv (HM.out.1.below hal5))
   have HT2:Hid (adv (adv fi (exF V F z)) (exsF V F (l.drop (i+1)))=adv f E):=by
    show _=_;rw [<-adv_app fi _ (HEL.out z),<-HM.out.2.2,drop_at hz,exsF]
   have HM5:Hid (Mv b w W5):=HM.out.2.1.trans (Mv.of b hal5);clear hz hev hgv hgo hal5 HM;obtain ⟨k2,num2,S2,op2,A2,len2,cap2,p2⟩:=v';simp only [EV.val] at HC hW5 HX5;simp only at x0 x1 x2 x3 x4 x5;go_upto_region 9 with fail;rw [<-hW5,<-hg5];clear hW5 hg5 x0 x1 x2 x3 x4 x5;have z0:=HX5.out.c 0 rfl;have z1:=HX5.out.c 1 rfl;have z2:=HX5.out.c 2 rfl;have z3:=HX5.out.c 3 rfl;have z4:=HX5.out.c 4 rfl;have z5:=HX5.out.c 5 rfl;go_wp2_with fail;refine HC.out.mono ?_;rintro e w6 ⟨rfl,q1,q2⟩
   have HM6:Hid (LS w0 w1 w6 b P (adv fi (exF V F z))/\Mv b w w6/\adv (adv fi (exF V F z)) (exsF V F (l.drop (i+1)))=adv f E):=⟨q1,HM5.out.trans q2,HT2.out⟩
   clear q1 q2 z0 z1 z2 z3 z4 z5 HC HX5 HM5 HT2;go_wp2_with fail;exact ⟨⟨i+1,_,by have:=HIM.out;omega,by have h1:=HIM.out;have h2:=HCM.out;rw [Go.IntWalk.wrap64_in _ ⟨by omega,by omega⟩];rfl,HM6⟩,by have h1:=HIM.out;have h2:=HCM.out;rw [Go.IntWalk.wrap64_in _ ⟨by omega,by omega⟩];simp [intOf];omega⟩
  ·have him':¬(i:Int)<len:=by omega
   have HR:Hid (LS w0 w1 wr b P (adv f E)/\Mv b w wr):=by
    have hT:=HM.out.2.2;rw [drop_none (by rw [<-HLN.out];omega),exsF,adv_nil] at hT;rw [<-hT];exact ⟨HM.out.1,HM.out.2.1⟩
   go_wp2_with fail;go_end0;exact ⟨rfl,HR.out⟩
theorem lexpr_all {w0 w1:World} {b:Nat} {P:LP} {L:List GN} {V:List (List UInt8)} {F:List Spt} (hF:LF w0 w1 b P L F V):∀(m:Nat) (x:GX),SizeOf.sizeOf x<=m->LEx w0 w1 b P V F x
 |0,x,hm=>by
  obtain ⟨k,n,s,o,l,p⟩:=x;simp only [GX.mk.sizeOf_spec] at hm;omega
 |m+1,x,hm=>lexpr_step hF x (λ i z hz=>lexpr_all hF m z (by have:=sub_lt hz;omega))
theorem lexpr_any {w0 w1:World} {b:Nat} {P:LP} {L:List GN} {V:List (List UInt8)} {F:List Spt} (hF:LF w0 w1 b P L F V) (x:GX):LEx w0 w1 b P V F x:=lexpr_all hF _ x (n_ _)
end Go.Proofs.YtocecpghoncmgaaGreatDoor
namespace Go.Proofs.YtocecpghoncmgaaGreatDoor
open Go.RowKit Go.Maps
variable {w0 w1 w:World} {b:Nat} {P:LP} {L:List GN} {F:List Spt} {V:List (List UInt8)} {f:Int×Int}
theorem ltarget_any (hF:LF w0 w1 b P L F V) (h:LS w0 w1 w b P f) (s:ByteArray) (hs:s.size<=140737488351232) :
  Calls Tryz.prog 150 #[.pointer (some ⟨b,0,none⟩),.string s] w λ e w'=>e=.returned (.int .i64 (tgI F s.data.toList))/\Below w.heap.size w w':=by
 obtain ⟨n,D,hM,_,hD⟩:=hF.pl' h;have HM:=h_ hM;have HK:=h_ (Go.WideMaps.keyOf_string_mk (P:=Tryz.prog) Tryz.underlying9 (s:=s) (by unfold maxLen;omega));obtain ⟨hD1,hD2⟩:=hD s.data.toList
 obtain ⟨T,hT⟩:∃T,s.data.toList=T:=⟨_,rfl⟩
 rw [hT] at hD1 hD2 HK ⊢;have x3:=h.2.2.c 3 rfl
 cases hf:findN F T with
 |none =>
  have HR:Hid (tgI F T=-1):=by show _=_;unfold tgI;rw [hf]
  rw [hf] at hD1;have HD1:=h_ hD1;clear hD1 hD2 hf hM h hF hs hT;go_enter Tryz.func150,Tryz.ntmps150;go_wp2_with (first|(at_lookup;refine wpList_lookup_own_ok_int _ rfl _ _ 63 rfl 9 3 .i64 kLaw Tryz.underlying63 Tryz.underlying3 (kZero _) P.bP n _ rfl HM.out _ _ rfl HK.out ?_;intro c hat hwc;rw [HD1.out,Option.isSome_none];clear hat hwc)|go_in);go_ret;exact ⟨by rw [HR.out];rfl,b_ _ w⟩
 |some i =>
  rw [hf] at hD1;have HD:=h_ (And.intro hD1 (hD2 i hf))
  by_cases hi0:i=0
  ·subst hi0
   have HR:Hid (tgI F T=-1):=by show _=_;unfold tgI;rw [hf];rfl
   clear hD1 hD2 hf hM h hF hs hT;go_enter Tryz.func150,Tryz.ntmps150;go_wp2_with (first|(at_lookup;refine wpList_lookup_own_ok_int _ rfl _ _ 63 rfl 9 3 .i64 kLaw Tryz.underlying63 Tryz.underlying3 (kZero _) P.bP n _ rfl HM.out _ _ rfl HK.out ?_;intro c hat hwc;rw [HD.out.1,Option.isSome_some];obtain rfl:=int_lit (HD.out.2.symm.trans hat);clear hat hwc)|go_in);go_ret;exact ⟨by rw [HR.out];rfl,b_ _ w⟩
  ·obtain ⟨sp,hsp⟩:=find_get hf;have hlt':=find_lt hf;have hlt:=hlt';rw [hF.fits.len] at hlt
   obtain ⟨x,hx⟩:∃x,L[i]?=some x:=⟨_,List.getElem?_eq_getElem hlt⟩
   obtain ⟨t,ht,hk,_⟩:=hF.fits.at_ hx
   obtain rfl:sp=t:=by rw [hsp] at ht;injection ht
   obtain ⟨q,hq⟩:∃q,isSt x.kind=q:=⟨_,rfl⟩
   have HR:Hid (tgI F T=if q=true then (i:Int) else sp.par):=by show _=_;unfold tgI;rw [hf];simp only [if_neg hi0,hsp,hk,hq]
   obtain ⟨g,c,hlv,hgb,hnd⟩:=hF.list' h;obtain ⟨g',c',hsv,hgb',hsr⟩:=hF.sp' h;obtain ⟨v1,v2,v3,v4,v5,v6,v7,v8,ho,u0,u1,u2,u3,u4,u5,u6,u7,u8⟩:=hnd.cells hx
   have HS:Hid (Calls Tryz.prog 91 #[.agg #[.int .i64 x.kind,v1,v2,v3,v4,v5,v6,v7,v8]] w λ e w'=>e=.returned (.bool (isSt x.kind))/\(w'.cell? ⟨b,1,none⟩=some P.sv/\w'.cell? ⟨g',i*5+2,none⟩=some (.int .i64 sp.par))/\Hid (Below w.heap.size w w')):=by
    refine (lisstate_any w v1 v2 v3 v4 v5 v6 v7 v8 x.kind ho).mono ?_;rintro e w' ⟨rfl,hb⟩;exact ⟨rfl,⟨(h.below hb).2.2.c 1 rfl,(hsr.below hb).p i sp hsp⟩,hb⟩
   rw [hq,hsv] at HS;have x0:=h.2.2.c 0 rfl;rw [hlv] at x0
   have hi1:(0:Int)<=(i:Int):=by omega
   have hi2:(i:Int)<(L.length:Int):=by omega
   have hi2':(i:Int)<(F.length:Int):=by omega
   have hll:=hF.len;have hfl:=hF.fits.len
   have hi3:(L.length:Int)<=9223372036854775807:=by omega
   have hi3':(F.length:Int)<=9223372036854775807:=by omega
   have hi4:((i:Int)==0)=false:=by simpa using hi0
   obtain ⟨N,hN⟩:∃N,L.length=N:=⟨_,rfl⟩
   rw [hN] at x0 hi2 hi3
   obtain ⟨N',hN'⟩:∃N,F.length=N:=⟨_,rfl⟩
   rw [hN'] at HS hi2' hi3'
   obtain ⟨K,hK⟩:∃K,x.kind=K:=⟨_,rfl⟩
   rw [hK] at u0 HS;clear hD1 hD2 hf hM h hF hs hT hsp hlt hlt' hx ht hk hq hlv hgb hnd ho hll hfl hN hN' hK hsv hgb' hsr hi0;go_enter Tryz.func150,Tryz.ntmps150;go_wp2_with (first|(at_lookup;refine wpList_lookup_own_ok_int _ rfl _ _ 63 rfl 9 3 .i64 kLaw Tryz.underlying63 Tryz.underlying3 (kZero _) P.bP n _ rfl HM.out _ _ rfl HK.out ?_;intro c hat hwc;rw [HD.out.1,Option.isSome_some];obtain rfl:=int_lit (HD.out.2.symm.trans hat);clear hat hwc)|fail);refine HS.out.mono ?_;rintro e w2 ⟨rfl,⟨y1,y2⟩,HB⟩;clear HS u0 u1 u2 u3 u4 u5 u6 u7 u8 x0 x3
   cases q with
   |true =>
    go_wp2_with fail;go_ret;exact ⟨by rw [HR.out];rfl,HB.out⟩
   |false =>
    go_wp2_with fail;go_ret;exact ⟨by rw [HR.out];rfl,HB.out⟩
theorem lapart_any (hF:LF w0 w1 b P L F V) (h:LS w0 w1 w b P f) (a c:Int) (ha:hasF F a=true) (hc:hasF F c=true) :
  Calls Tryz.prog 153 #[.pointer (some ⟨b,0,none⟩),.int .i64 a,.int .i64 c] w λ e w'=>e=.returned (.bool (apP F a c))/\Below w.heap.size w w':=by
 obtain ⟨_,_,hm⟩:=meet_is hF.fo ha hc;obtain ⟨i,sp,hmi,hil,hsp,hspa⟩:=hasF_of hm;have hil':=hil;rw [hF.fits.len] at hil'
 obtain ⟨x,hx⟩:∃x,L[i]?=some x:=⟨_,List.getElem?_eq_getElem hil'⟩
 obtain ⟨t,ht,hk,_⟩:=hF.fits.at_ hx
 obtain rfl:sp=t:=by rw [hsp] at ht;injection ht
 obtain ⟨g,cg,hlv,hgb,hnd⟩:=hF.list' h;obtain ⟨g',c',hsv,hgb',hsr⟩:=hF.sp' h
 have HR:Hid (apP F a c=(!((i:Int)==a) && !((i:Int)==c)&&(x.kind==2))):=by
  show _=_;unfold apP;rw [hmi];unfold kindF;rw [<-hmi,hspa];simp only;rw [dec_beq,hk]
 have HM:Hid (Calls Tryz.prog 205 #[.slice (some ⟨g',0,none⟩) F.length c',.slice (some ⟨w.heap.size,0,none⟩) 2 2] (w.alloc (.cells #[.int .i64 a,.int .i64 c] 3)) λ e w'=>e=.returned (.int .i64 (i:Int))/\(w'.cell? ⟨b,0,none⟩=some P.lv/\w'.cell? ⟨g,i*9,none⟩=some (.int .i64 x.kind))/\Hid (Below w.heap.size w w')):=by
  refine (fmeet_new w g' c' F [a,c] hsr (by simp)).mono ?_;rw [hmi];rintro e w' ⟨rfl,hb⟩;obtain ⟨v1,v2,v3,v4,v5,v6,v7,v8,ho,u0,_⟩:=(hnd.same hb.size (hb.block g hnd.lt)).cells hx;exact ⟨rfl,⟨(h.below hb).2.2.c 0 rfl,u0⟩,hb⟩
 have x1:=h.2.2.c 1 rfl;rw [hsv] at x1;rw [hlv] at HM
 have hi1:(0:Int)<=(i:Int):=by omega
 have hi2:(i:Int)<(L.length:Int):=by omega
 have hll:=hF.len;have hfl:=hF.fits.len
 have hi3:(L.length:Int)<=9223372036854775807:=by omega
 obtain ⟨N,hN⟩:∃N,L.length=N:=⟨_,rfl⟩
 rw [hN] at HM hi2 hi3
 obtain ⟨N',hN'⟩:∃N,F.length=N:=⟨_,rfl⟩
 rw [hN'] at HM x1
 obtain ⟨K,hK⟩:∃K,x.kind=K:=⟨_,rfl⟩
 rw [hK] at HM HR
 obtain ⟨q1,hq1⟩:∃q,((i:Int)==a)=q:=⟨_,rfl⟩
 obtain ⟨q2,hq2⟩:∃q,((i:Int)==c)=q:=⟨_,rfl⟩
 have e1:((i:Int) != a)=!q1:=by rw [<-hq1];rfl
 have e2:((i:Int) != c)=!q2:=by rw [<-hq2];rfl
 rw [hq1,hq2] at HR;clear hm hmi hil hsp hspa hil' hx ht hk hlv hgb hnd hsv hgb' hsr h hF ha hc hll hfl hN hN' hK hq1 hq2;go_enter Tryz.func153,Tryz.ntmps153;go_wp2_with fail;refine HM.out.mono ?_;rintro e w2 ⟨rfl,⟨y0,y1⟩,HB⟩;clear HM x1
 cases q1 with
 |true =>
  have e1':((i:Int) != a)=false:=e1;clear e1;go_wp2_with fail;go_ret;exact ⟨by rw [HR.out];rfl,HB.out⟩
 |false =>
  have e1':((i:Int) != a)=true:=e1;clear e1
  cases q2 with
  |true =>
   have e2':((i:Int) != c)=false:=e2;clear e2;go_wp2_with fail;go_ret;exact ⟨by rw [HR.out];rfl,HB.out⟩
  |false =>
   have e2':((i:Int) != c)=true:=e2;clear e2;go_wp2_with fail;go_ret;exact ⟨by rw [HR.out];rfl,HB.out⟩
theorem lat1_any (hF:LF w0 w1 b P L F V) (h:LS w0 w1 w b P f) (a c:Int) (ga gk:Nat) (ha:hasF F a=true) (hc:hasF F c=true) (h1:w.cell? ⟨gk,0,none⟩=some (.pointer (some ⟨b,0,none⟩))) (h2:w.cell? ⟨ga,0,none⟩=some (.int .i64 a)) :
  Calls Tryz.prog 152 #[.int .i64 c,.pointer (some ⟨gk,0,none⟩),.pointer (some ⟨ga,0,none⟩)] w λ e w'=>e=.returned (.bool (!(apP F a c)))/\Below w.heap.size w w':=by
 have HA:Hid (Calls Tryz.prog 153 #[.pointer (some ⟨b,0,none⟩),.int .i64 a,.int .i64 c] w.drew λ e w'=>e=.returned (.bool (apP F a c))/\(w'.cell? ⟨gk,0,none⟩=some (.pointer (some ⟨b,0,none⟩))/\w'.cell? ⟨ga,0,none⟩=some (.int .i64 a))/\Hid (Below w.heap.size w w')):=by
  have hd:Below w.heap.size w w.drew:=(b_ _ w).drew;refine (lapart_any hF (h.below hd) a c ha hc).mono ?_;rintro e w' ⟨rfl,hb⟩;have hb':=hd.trans hb;exact ⟨rfl,⟨by rw [World.cell?_of_block (hb'.block _ (World.block_lt_of_cell? w _ h1))];exact h1,by rw [World.cell?_of_block (hb'.block _ (World.block_lt_of_cell? w _ h2))];exact h2⟩,hb'⟩
 clear hF h ha hc;go_enter Tryz.func152,Tryz.ntmps152;go_upto_region 1 with fail
 go_region_held3 (λ W=>W.cell? ⟨gk,0,none⟩=some (.pointer (some ⟨b,0,none⟩))/\W.cell? ⟨ga,0,none⟩=some (.int .i64 a)) (go_keep) (first|(go_at_call 153;refine HA.out.mono ?_;rintro e w5 ⟨rfl,⟨x1,x2⟩,HQ5⟩))
 all_goals
  clear x1 x2 HA;go_wp2_with fail;go_ret;exact ⟨rfl,HQ5.out⟩
theorem latFirst_any (hF:LF w0 w1 b P L F V) (h:LS w0 w1 w b P f) (a:Int) (ga gk:Nat) (A:Option Addr) (n c:Nat) (xs:List Int) (ha:hasF F a=true) (hxs:∀m∈xs,hasF F m=true) (hl:xs.length=n) (hn:n<=9223372036854775807) (hA:IntAt w A xs) (h1:w.cell? ⟨gk,0,none⟩=some (.pointer (some ⟨b,0,none⟩))) (h2:w.cell? ⟨ga,0,none⟩=some (.int .i64 a)) :
  Calls Tryz.prog 204 #[.slice A n c,.func (.func 152) #[] #[.pointer (some ⟨gk,0,none⟩),.pointer (some ⟨ga,0,none⟩)]] w λ e w'=>∃r:Int,e=.returned (.int .i64 r)/\decide (0<=r)=!(xs.all λ m=>apP F a m)/\Below w.heap.size w w':=by
 have HCC:=h_ (λ (W:World) (hb:Below w.heap.size w W) (m:Int) (hm:hasF F m=true)=>lat1_any hF (h.below hb) a m ga gk ha hm (by rw [World.cell?_of_block (hb.block _ (World.block_lt_of_cell? w _ h1))];exact h1) (by rw [World.cell?_of_block (hb.block _ (World.block_lt_of_cell? w _ h2))];exact h2));have HX:=h_ hxs;have HL:=h_ hl;have HN:=h_ hn;have HA:=h_ hA;clear hF h ha hxs hl hn hA h1 h2;go_enter Tryz.func204,Tryz.ntmps204;go_wp2_with fail
 go_loopw [8] (λ iv wr=>∃i:Nat,i<=n/\iv=.int .i64 (i:Int)/\Hid (((xs.take i).all λ m=>apP F a m)=true)/\Hid (Below w.heap.size w wr)) (λ iv _=>n-(intOf iv).toNat)
 case atStart=>exact ⟨0,Nat.zero_le _,rfl,rfl,b_ _ w⟩
 case round =>
  obtain ⟨i,hi,rfl,HT,HBW⟩:=hrel
  by_cases him:i<n
  ·have him':(i:Int)<n:=by omega
   have HIM:=h_ him
   obtain ⟨m,hm⟩:∃m,xs[i]?=some m:=⟨_,List.getElem?_eq_getElem (by rw [HL.out];exact him)⟩
   obtain ⟨g,og,rfl,hg,y0⟩:=HA.out i m hm
   have u0:wr.cell? ⟨g,og+i,none⟩=some (.int .i64 m):=by rw [World.cell?_of_block (HBW.out.block _ (World.block_lt_of_cell? w _ y0))];exact y0
   have HCL:=h_ (HCC.out wr HBW.out m (HX.out m (List.mem_of_getElem? hm)))
   have HNX:Hid (((xs.take (i+1)).all λ m=>apP F a m)=apP F a m):=by
    show _=_;rw [List.take_add_one,hm,List.all_append,HT.out];simp
   have HAL:Hid (apP F a m=false->(xs.all λ m=>apP F a m)=false):=λ h=>by
    rw [List.all_eq_false];exact ⟨m,List.mem_of_getElem? hm,by rw [h];decide⟩
   obtain ⟨r,hr⟩:∃r,apP F a m=r:=⟨_,rfl⟩
   rw [hr] at HCL HNX HAL;clear hm hg y0 hr HT;cases r
   ·go_wp2_with fail;refine HCL.out.mono ?_;rintro e w2 ⟨rfl,hb⟩;have HB2:=h_ (HBW.out.trans (hb.mono HBW.out.size));clear hb HCL u0 HBW;go_wp2_with fail;go_ret;exact ⟨_,rfl,by rw [HAL.out (by first|trivial|rfl)];simp,HB2.out⟩
   ·go_wp2_with fail;refine HCL.out.mono ?_;rintro e w2 ⟨rfl,hb⟩;have HB2:=h_ (HBW.out.trans (hb.mono HBW.out.size));clear hb HCL u0 HBW;go_wp2_with fail
    go_roundw
    case rel=>exact ⟨i+1,by have:=HIM.out;omega,by have h1:=HIM.out;have h2:=HN.out;rw [Go.IntWalk.wrap64_in _ ⟨by omega,by omega⟩];rfl,HNX,HB2⟩
    case measure=>have h1:=HIM.out;have h2:=HN.out;rw [Go.IntWalk.wrap64_in _ ⟨by omega,by omega⟩];simp [intOf];omega
  ·have him':¬(i:Int)<n:=by omega
   have HALL:Hid ((xs.all λ m=>apP F a m)=true):=by
    have:=HT.out;rw [List.take_of_length_le (by rw [HL.out];omega)] at this;exact this
   clear hi;go_wp2_with fail;go_ret;exact ⟨_,rfl,by rw [HALL.out];rfl,HBW.out⟩
theorem latCont_any (hF:LF w0 w1 b P L F V) (h:LS w0 w1 w b P f) (a:Int) (ga gk:Nat) (A:Option Addr) (n c:Nat) (xs:List Int) (ha:hasF F a=true) (hxs:∀m∈xs,hasF F m=true) (hl:xs.length=n) (hn:n<=9223372036854775807) (hA:IntAt w A xs) (h1:w.cell? ⟨gk,0,none⟩=some (.pointer (some ⟨b,0,none⟩))) (h2:w.cell? ⟨ga,0,none⟩=some (.int .i64 a)) :
  Calls Tryz.prog 151 #[.slice A n c,.func (.func 152) #[] #[.pointer (some ⟨gk,0,none⟩),.pointer (some ⟨ga,0,none⟩)]] w λ e w'=>e=.returned (.bool (!(xs.all λ m=>apP F a m)))/\Below w.heap.size w w':=by
 have HC:=h_ (latFirst_any hF h a ga gk A n c xs ha hxs hl hn hA h1 h2);clear hF h ha hxs hl hn hA h1 h2;go_enter Tryz.func151,Tryz.ntmps151;go_wp2_with fail;refine HC.out.mono ?_;rintro e w2 ⟨r,rfl,hr,hb⟩;have HB2:=h_ hb;have HR2:=h_ hr;clear hb hr HC;go_wp2_with fail;go_ret;exact ⟨by rw [<-HR2.out];rfl,HB2.out⟩
end Go.Proofs.YtocecpghoncmgaaGreatDoor
namespace Go.Proofs.YtocecpghoncmgaaGreatDoor
open Go.RowKit Go.Maps
variable {w0 w1 w:World} {b:Nat} {P:LP} {L:List GN} {F:List Spt} {V:List (List UInt8)} {f:Int×Int}
theorem nodup_le:∀(N:Nat) (l:List Nat),l.Nodup->(∀x∈l,x<N)->l.length<=N
 |0,l,_,h=>by
  cases l with
  |nil=>exact n_ _
  |cons a l=>exact absurd (h a (List.mem_cons_self ..)) (by omega)
 |N+1,l,hn,h=>by
  have h1:=nodup_le N (l.erase N) (hn.erase N) (λ x hx=>by
   have:=(hn.mem_erase_iff).1 hx;have h2:=h x this.2
   omega)
  rw [List.length_erase] at h1
  split at h1 <;> omega
def Plc (F:List Spt) (l:List Int):Prop:=(∀m∈l,hasF F m=true)/\(l.map Int.toNat).Nodup
theorem Plc.len {F:List Spt} {l:List Int} (h:Plc F l):l.length<=F.length:=by
 have:=nodup_le F.length (l.map Int.toNat) h.2 (λ x hx=>by
  obtain ⟨m,hm,rfl⟩:=List.mem_map.1 hx;obtain ⟨k,s,rfl,hk,_⟩:=hasF_of (h.1 m hm)
  omega)
 rwa [List.length_map] at this
theorem Plc.snoc {F:List Spt} (hf:Fo F) {l:List Int} (h:Plc F l) {n:Int} (hn:hasF F n=true) (ha:(l.all λ m=>apP F n m)=true):Plc F (l++[n]):=by
 refine ⟨λ m hm=>?_,?_⟩
 ·rcases List.mem_append.1 hm with hm|hm
  ·exact h.1 m hm
  ·rw [List.mem_singleton.1 hm];exact hn
 ·rw [List.map_append,List.nodup_append];refine ⟨h.2,by simp,λ x hx y hy e=>?_⟩;obtain ⟨m,hm,rfl⟩:=List.mem_map.1 hx;simp only [List.map_cons,List.map_nil,List.mem_singleton] at hy;obtain ⟨k,s,rfl,_⟩:=hasF_of (h.1 m hm);obtain ⟨k',s',rfl,_⟩:=hasF_of hn
  have hkk:(k:Int)=(k':Int):=by omega
  have h1:=List.all_eq_true.1 ha _ hm;rw [hkk,apP_eq hf hn hn] at h1;unfold apartF at h1;simp at h1
theorem ltargets_any (hF:LF w0 w1 b P L F V) (h:LS w0 w1 w b P f) (A:Option Addr) (n c:Nat) (ts:List (List UInt8)) (hl:ts.length=n) (hn:n<=9223372036854775807) (hA:StrAt w0 A (ts.map λ s=>(⟨s.toArray⟩:ByteArray))) (hr:∀t∈ts,t.length<=140737488351232) :
  Calls Tryz.prog 95 #[.pointer (some ⟨b,0,none⟩),.slice A n c] w λ e w'=>e=.returned (.bool (tgsN F [] ts))/\Below w.heap.size w w':=by
 obtain ⟨W1,hW1⟩:∃W,W=w.alloc (.cells #[.pointer (some ⟨b,0,none⟩)] 108):=⟨_,rfl⟩
 obtain ⟨gk,hgk⟩:∃g,g=w.heap.size:=⟨_,rfl⟩
 have hal:Below w.heap.size w W1:=by rw [hW1];exact (b_ _ w).alloc (n_ _) _
 have HK:Hid (CB W1 gk 108 [.pointer (some ⟨b,0,none⟩)]):=by rw [hW1,hgk];exact CB.new w _ [.pointer (some ⟨b,0,none⟩)]
 have HB:=h_ hal;have HS:=h_ (h.below hal);have HTG:=h_ (λ (W:World) (g:Int×Int) (hk:LS w0 w1 W b P g) (s:ByteArray) (hs:s.size<=140737488351232)=>ltarget_any hF hk s hs);have HCT:=h_ (λ (W:World) (hk:LS w0 w1 W b P f)=>latCont_any hF hk);have HTI:=h_ (λ (s:List UInt8)=>tgI_is hF.fo hF.kd s);have HAP:=h_ (λ (n:Int) (hn:hasF F n=true) (at_:List Int) (hm:∀m∈at_,hasF F m=true)=>all_apP hF.fo hn at_ hm);have HSN:=h_ (λ (l:List Int) (hp:Plc F l) (n:Int) (hn:hasF F n=true) (ha:(l.all λ m=>apP F n m)=true)=>hp.snoc hF.fo hn ha)
 have HFL:Hid (F.length<=64):=by
  have:=hF.len;show _<=_;rw [hF.fits.len];exact this
 have HA:=h_ hA;have HL:=h_ hl;have HN:=h_ hn;have HR:=h_ hr
 obtain ⟨X,hX⟩:∃X,tgsN F [] ts=X:=⟨_,rfl⟩
 have HX:=h_ hX;rw [hX];have y0:=HK.out.c 0 rfl;clear hal hF h hl hn hA hr hX;go_enter Tryz.func95,Tryz.ntmps95;go_upto_region 1 with fail;rw [<-hW1,<-hgk];clear hW1 hgk y0;go_wp2_with fail
 go_loopw [5,11] (λ v iv wr=>∃(i:Nat) (at_:List Int),i<=n/\iv=.int .i64 (i:Int)/\Hid (IsR wr W1.heap.size v at_)/\Hid (Plc F at_/\tgsN F at_ (ts.drop i)=X)/\Hid (Below W1.heap.size W1 wr)) (λ _ iv _=>n-(intOf iv).toNat)
 case atStart=>exact ⟨0,[],Nat.zero_le _,rfl,World.ownsRow_nil _ _ _ _,⟨⟨λ _ h=>(by cases h),List.nodup_nil⟩,by rw [List.drop_zero];exact HX.out⟩,b_ _ W1⟩
 case round =>
  obtain ⟨i,at_,hi,rfl,HV,HT,HBW⟩:=hrel
  by_cases him:i<n
  ·have him':(i:Int)<n:=by omega
   have HIM:=h_ him
   obtain ⟨t,ht⟩:∃t,ts[i]?=some t:=⟨_,List.getElem?_eq_getElem (by rw [HL.out];exact him)⟩
   obtain ⟨g,og,rfl,hg,u0'⟩:=HA.out i _ (by rw [List.getElem?_map,ht];rfl);have hb0:Below w0.heap.size w0 wr:=(HS.out.below HBW.out).1
   have u0:wr.cell? ⟨g,og+i,none⟩=some (.string ⟨t.toArray⟩):=by rw [World.cell?_of_block (hb0.block g hg)];exact u0'
   have y0:wr.cell? ⟨gk,0,none⟩=some (.pointer (some ⟨b,0,none⟩)):=(HK.out.below HBW.out).c 0 rfl;have HC:=h_ (HTG.out wr f (HS.out.below HBW.out) ⟨t.toArray⟩ (HR.out t (List.mem_of_getElem? ht)));simp only at HC
   obtain ⟨N0,hN0⟩:∃N:ByteArray,(⟨t.toArray⟩:ByteArray)=N:=⟨_,rfl⟩
   rw [hN0] at u0 HC;have hcs:=HTI.out t;have HST:Hid (ts.drop i=t::ts.drop (i+1)):=drop_at ht
   obtain ⟨I,hI⟩:∃I,tgI F t=I:=⟨_,rfl⟩
   rw [hI] at HC hcs;have HCS:=h_ hcs;clear ht hg u0' hb0 hN0 hI hcs hi;go_upto_region 5 with fail;go_wp2_with fail;refine HC.out.mono ?_;rintro e w2 ⟨rfl,hb2⟩
   obtain ⟨W3,hW3⟩:∃W,W=w2.alloc (.cells #[.int .i64 I] 3):=⟨_,rfl⟩
   obtain ⟨g3,hg3⟩:∃g,g=w2.heap.size:=⟨_,rfl⟩
   have hal3:Below w2.heap.size w2 W3:=by rw [hW3];exact (b_ _ w2).alloc (n_ _) _
   have HX3:Hid (CB W3 g3 3 [.int .i64 I]):=by rw [hW3,hg3];exact CB.new w2 _ [.int .i64 I]
   have HB3:Hid (Below W1.heap.size W1 W3):=(HBW.out.trans (hb2.mono HBW.out.size)).trans (hal3.mono (by have:=HBW.out.size;have:=hb2.size;omega));have HV3:Hid (IsR W3 W1.heap.size _ at_):=ownsRow_below (ownsRow_below HV.out hb2) hal3;clear hb2 HC u0 y0 hal3 HBW HV;go_upto_region 6 with fail;rw [<-hW3,<-hg3];clear hW3 hg3;have z3:=HX3.out.c 0 rfl;rcases HCS.out with ⟨hnone,rfl⟩|⟨hsome,hhas,hneg⟩
   ·have HRES:Hid (X=false):=by
     show _=_;rw [<-HT.out.2,HST.out,tgs_no hnone]
    clear hnone HCS HT HST;go_wp2_with fail;go_ret;exact ⟨by rw [HRES.out];rfl,HB.out.trans (HB3.out.mono HB.out.size)⟩
   ·have HPI:=h_ (And.intro hsome hhas);obtain ⟨A',c',rfl,hc1,hc2,hIA⟩:=HV3.out.at_
    have hmx:maxLen<=9223372036854775807:=by decide
    have HCC:=h_ (HCT.out W3 (HS.out.below HB3.out) I g3 gk A' at_.length c' at_ hhas HT.out.1.1 rfl (by omega) hIA ((HK.out.below HB3.out).c 0 rfl) (HX3.out.c 0 rfl))
    obtain ⟨q,hq⟩:∃q,(at_.all λ m=>apP F I m)=q:=⟨_,rfl⟩
    rw [hq] at HCC
    have HEQ:Hid (X=(q&&tgsN F (at_++[I]) (ts.drop (i+1)))):=by
     show _=_;rw [<-HT.out.2,HST.out,tgs_some hsome,HAP.out I hhas at_ HT.out.1.1,hq]
    have HPL:Hid (q=true->Plc F (at_++[I])):=λ e=>HSN.out at_ HT.out.1 I hhas (by rw [hq];exact e);have HLE:Hid (at_.length<=64):=Nat.le_trans HT.out.1.len HFL.out
    have hneg':¬I<0:=by omega
    clear hsome hhas hc1 hc2 hIA hmx hq HT HST hneg HCS;go_wp2_with fail;refine HCC.out.mono ?_;rintro e w4 ⟨rfl,hb4⟩;have HB4:Hid (Below W1.heap.size W1 w4):=HB3.out.trans (hb4.mono HB3.out.size);have HX4:=h_ (HX3.out.below hb4);have HV4:Hid (IsR w4 W1.heap.size (.slice A' at_.length c') at_):=ownsRow_below HV3.out hb4;clear hb4 HCC z3 HX3 HV3 HB3
    cases q with
    |false =>
     have HRES:Hid (X=false):=by show _=_;rw [HEQ.out];rfl
     clear HEQ HPL;go_wp2_with fail;go_ret;exact ⟨by rw [HRES.out];rfl,HB.out.trans (HB4.out.mono HB.out.size)⟩
    |true =>
     have HEQ':Hid (tgsN F (at_++[I]) (ts.drop (i+1))=X):=by show _=_;rw [HEQ.out];rfl
     have HPL':=h_ (HPL.out rfl);have z4:=HX4.out.c 0 rfl;clear HEQ HPL hneg';go_upto_region 9 with (at_builtin;refine wpl_append_i9 rfl (.tmp 25) (.tmp 27) rfl W1.heap.size _ at_ rfl HV4.out I rfl (by have:=HLE.out;omega) HB4.out.size ?_);intro v5 w5 hv5 hb5;have HV5:=h_ hv5;have HB5:=h_ (HB4.out.trans hb5);clear hv5 hb5 z4 HX4 HV4;go_wp2_with fail
     go_roundw
     case rel=>exact ⟨i+1,at_++[I],by have:=HIM.out;omega,by have h1:=HIM.out;have h2:=HN.out;rw [Go.IntWalk.wrap64_in _ ⟨by omega,by omega⟩];rfl,HV5,⟨HPL'.out,HEQ'.out⟩,HB5⟩
     case measure=>have h1:=HIM.out;have h2:=HN.out;rw [Go.IntWalk.wrap64_in _ ⟨by omega,by omega⟩];simp [intOf];omega
  ·have him':¬(i:Int)<n:=by omega
   have HRES:Hid (X=true):=by
    have:=HT.out.2;rw [drop_none (by rw [HL.out];omega)] at this;exact this.symm
   clear hi;go_wp2_with fail;go_ret;exact ⟨by rw [HRES.out];rfl,HB.out.trans (HBW.out.mono HB.out.size)⟩
end Go.Proofs.YtocecpghoncmgaaGreatDoor
namespace Go.Proofs.YtocecpghoncmgaaGreatDoor
open Go.RowKit
variable {w0 w1 w:World} {b:Nat} {P:LP} {L:List GN} {F:List Spt} {V:List (List UInt8)} {f:Int×Int}
theorem lreq_true (w:World) (b:Nat) (c p:Int):Calls Tryz.prog 48 #[.pointer (some ⟨b,4,none⟩),.bool true,.int .i64 c,.int .i64 p] w λ e w'=>e=.returned (.tuple #[])/\w'=w:=by
 go_enter Tryz.func48,Tryz.ntmps48;go_wp2_with fail;go_end0;exact ⟨rfl,rfl⟩
def oaF (V:List (List UInt8)) (k:Int) (nm:List UInt8) (p:Int):List (Int×Int):=if k=1/\vrF V nm=false then [(23,p)] else []
theorem oaF_ne (V:List (List UInt8)) (k:Int) (nm:List UInt8) (p:Int):∀x∈oaF V k nm p,x.1≠0:=λ x hx=>by
 unfold oaF at hx
 split at hx
 ·rw [List.mem_singleton.1 hx];simp
 ·cases hx
theorem acF_adv (V:List (List UInt8)) (F:List Spt) (f:Int×Int) (a:GA) (l:List GA):adv f (acsF V F (a::l))=adv (adv (adv f (oaF V a.kind a.name a.at_)) (exF V F a.val)) (acsF V F l):=by
 rw [<-adv_app f _ (oaF_ne V _ _ _),<-adv_app f _ (λ x hx=>by
  rcases List.mem_append.1 hx with hx|hx
  ·exact oaF_ne V _ _ _ x hx
  ·exact exF_ne V F _ x hx)]
 rfl
theorem lacts_any (hF:LF w0 w1 b P L F V) (h:LS w0 w1 w b P f) (l:List GA) (A:Option Addr) (n c:Nat) (hx:DxAt w0 (gActs l) (.slice A n c)) (hr:∀a∈l,a.rng) :
  Calls Tryz.prog 52 #[.pointer (some ⟨b,0,none⟩),.slice A n c] w λ e w'=>e=.returned (.tuple #[])/\LS w0 w1 w' b P (adv f (acsF V F l))/\Mv b w w':=by
 obtain ⟨hl,hn⟩:l.length=n/\n<=9223372036854775807:=by
  obtain ⟨A',c',e,h1,h2⟩:=DxAt.slice (show DxAt w0 (.row 156 9 l.length (l.flatMap gAct)) (.slice A n c) from hx);injection e with _ e _
  have:maxLen<=9223372036854775807:=by decide
  exact ⟨e.symm,by omega⟩
 have HAT:=h_ (λ (i:Nat) (a:GA) (hi:l[i]?=some a)=>acts_at hx hi);have HEX:=h_ (λ (x:GX)=>lexpr_any hF x);have HVA:=h_ (λ (W:World) (g:Int×Int) (hk:LS w0 w1 W b P g) (s:ByteArray) (hs:s.size<=140737488351232)=>lvar_any hF hk s hs);have HL:=h_ hl;have HN:=h_ hn;have HR:=h_ hr;have HLB:=h_ hF.lb;have HS:=h_ h;clear hF h hx hl hn hr;go_enter Tryz.func52,Tryz.ntmps52;go_wp2_with fail
 go_loopw [8] (λ iv wr=>∃(i:Nat) (fi:Int×Int),i<=n/\iv=.int .i64 (i:Int)/\Hid (LS w0 w1 wr b P fi/\Mv b w wr/\adv fi (acsF V F (l.drop i))=adv f (acsF V F l))) (λ iv _=>n-(intOf iv).toNat)
 case atStart=>exact ⟨0,f,Nat.zero_le _,rfl,HS.out,Mv.refl b w,by rw [List.drop_zero]⟩
 case round =>
  obtain ⟨i,fi,hi,rfl,HM⟩:=hrel
  by_cases him:i<n
  ·have HIM:=h_ him
   have him':(i:Int)<n:=by omega
   obtain ⟨a,ha⟩:∃a,l[i]?=some a:=⟨_,List.getElem?_eq_getElem (by rw [HL.out];exact him)⟩
   obtain ⟨g,o,c',ev,hv,hg,u0',u1',hev,hgv,u8'⟩:=HAT.out i a ha
   obtain rfl:A=some ⟨g,o,none⟩:=by injection hv
   have hbl:=HM.out.1.1
   have kb:∀{p:Addr} {u:Value},w0.cell? p=some u->wr.cell? p=some u:=λ hc=>by rw [World.cell?_of_block (hbl.block _ (World.block_lt_of_cell? w0 _ hc))];exact hc
   obtain ⟨u2,u3,u4,u5,u6,u7⟩:=hev.same (hbl.block g hg);have u0:=kb u0';have u1:=kb u1';have u8:=kb u8';obtain ⟨S,hS⟩:=str_of a.name;have hSl:S.data.toList=a.name:=toArr hS;have har:=HR.out a (List.mem_of_getElem? ha)
   have hSs:S.size<=140737488351232:=by
    have h1:=har.1;rw [<-hSl] at h1;exact h1
   rw [hS] at u1
   have HAD:Hid (adv (adv (adv fi (oaF V a.kind a.name a.at_)) (exF V F a.val)) (acsF V F (l.drop (i+1)))=adv f (acsF V F l)):=by
    show _=_;rw [<-acF_adv,<-drop_at ha];exact HM.out.2.2
   obtain ⟨q1,hq1⟩:∃q,vrF V a.name=q:=⟨_,rfl⟩
   obtain ⟨K,hK⟩:∃K,a.kind=K:=⟨_,rfl⟩
   obtain ⟨p,hp⟩:∃p,a.at_=p:=⟨_,rfl⟩
   have HOA:Hid (oaF V a.kind a.name a.at_=if K=1/\q1=false then [(23,p)] else []):=by show _=_;unfold oaF;rw [hq1,hK,hp]
   obtain ⟨O,hO⟩:∃O,oaF V a.kind a.name a.at_=O:=⟨_,rfl⟩
   rw [hO] at HOA HAD
   obtain ⟨W5,hW5⟩:∃W,W=wr.alloc (.cells #[.int .i64 K,.string S,.int .i64 ev.kind,.int .i64 ev.num,.string ev.name,.int .i64 ev.op,.slice ev.A ev.len ev.cap,.int .i64 ev.p,.int .i64 p] 156):=⟨_,rfl⟩
   obtain ⟨g5,hg5⟩:∃g,g=wr.heap.size:=⟨_,rfl⟩
   have hal5:Below wr.heap.size wr W5:=by rw [hW5];exact (b_ _ wr).alloc (n_ _) _
   have HX5:Hid (CB W5 g5 156 [.int .i64 K,.string S,.int .i64 ev.kind,.int .i64 ev.num,.string ev.name,.int .i64 ev.op,.slice ev.A ev.len ev.cap,.int .i64 ev.p,.int .i64 p]):=by rw [hW5,hg5];exact CB.new wr _ [.int .i64 K,.string S,.int .i64 ev.kind,.int .i64 ev.num,.string ev.name,.int .i64 ev.op,.slice ev.A ev.len ev.cap,.int .i64 ev.p,.int .i64 p]
   have HGB:Hid (g5≠b):=by have:=HM.out.1.2.2.lt;rw [hg5];exact λ e=>by omega
   have HS5:Hid (LS w0 w1 W5.drew b P fi/\Mv b w W5.drew):=⟨HM.out.1.below (hal5.trans (b_ _ W5).drew),HM.out.2.1.trans (Mv.of b (hal5.trans (b_ _ W5).drew))⟩
   have HRQ:Hid (∀(q:Bool) (w6:World),Hid (LS w0 w1 w6 b P fi/\Mv b w w6/\CB w6 g5 156 [.int .i64 K,.string S,.int .i64 ev.kind,.int .i64 ev.num,.string ev.name,.int .i64 ev.op,.slice ev.A ev.len ev.cap,.int .i64 ev.p,.int .i64 p])->Calls Tryz.prog 48 #[.pointer (some ⟨b,4,none⟩),.bool q,.int .i64 23,.int .i64 p] w6 λ e w'=>e=.returned (.tuple #[])/\(w'.cell? ⟨b,2,none⟩=some (.map (some P.bV))/\w'.cell? ⟨g5,0,none⟩=some (.int .i64 K)/\w'.cell? ⟨g5,1,none⟩=some (.string S)/\w'.cell? ⟨g5,8,none⟩=some (.int .i64 p))/\Hid (LS w0 w1 w' b P (adv fi (if q=true then [] else [(23,p)]))/\Mv b w w'/\CB w' g5 156 [.int .i64 K,.string S,.int .i64 ev.kind,.int .i64 ev.num,.string ev.name,.int .i64 ev.op,.slice ev.A ev.len ev.cap,.int .i64 ev.p,.int .i64 p])):=by
    rintro q w6 ⟨h1,h2,h3⟩;refine (lrequire_any w0 w1 w6 b P fi q 23 p h1 HLB.out).mono ?_;rintro e w' ⟨rfl,h4,h5⟩;have c:=h3.mv h5 HGB.out;exact ⟨rfl,⟨h4.2.2.c 2 rfl,c.c 0 rfl,c.c 1 rfl,c.c 8 rfl⟩,h4,h2.trans h5,c⟩
   have HVd:Hid (Calls Tryz.prog 88 #[.map (some P.bV),.string S] W5.drew λ e w'=>e=.returned (.bool q1)/\(w'.cell? ⟨b,2,none⟩=some (.map (some P.bV))/\w'.cell? ⟨g5,0,none⟩=some (.int .i64 K)/\w'.cell? ⟨g5,1,none⟩=some (.string S)/\w'.cell? ⟨g5,8,none⟩=some (.int .i64 p))/\Hid (LS w0 w1 w' b P fi/\Mv b w w'/\CB w' g5 156 [.int .i64 K,.string S,.int .i64 ev.kind,.int .i64 ev.num,.string ev.name,.int .i64 ev.op,.slice ev.A ev.len ev.cap,.int .i64 ev.p,.int .i64 p])):=by
    have h1:=HVA.out _ _ HS5.out.1 S hSs;rw [hSl,hq1] at h1;refine h1.mono ?_;rintro e w' ⟨rfl,rfl⟩;have c:=HX5.out.drew;exact ⟨rfl,⟨HS5.out.1.2.2.c 2 rfl,c.c 0 rfl,c.c 1 rfl,c.c 8 rfl⟩,HS5.out.1,HS5.out.2,c⟩
   have HQ5:Hid (LS w0 w1 W5.drew b P fi/\Mv b w W5.drew/\CB W5.drew g5 156 [.int .i64 K,.string S,.int .i64 ev.kind,.int .i64 ev.num,.string ev.name,.int .i64 ev.op,.slice ev.A ev.len ev.cap,.int .i64 ev.p,.int .i64 p]):=⟨HS5.out.1,HS5.out.2,HX5.out.drew⟩
   have HM5:Hid (LS w0 w1 W5 b P fi/\Mv b w W5):=⟨HM.out.1.below hal5,HM.out.2.1.trans (Mv.of b hal5)⟩
   have HXE:=h_ (λ (W:World) (hk:LS w0 w1 W b P (adv fi O))=>HEX.out a.val har.2 W (adv fi O) ev hgv hk);have z0:=HX5.out.c 0 rfl;have z1:=HX5.out.c 1 rfl;have z8:=HX5.out.c 8 rfl;have y2:W5.cell? ⟨b,2,none⟩=some (.map (some P.bV)):=(HM.out.1.below hal5).2.2.c 2 rfl;clear ha hv hg hbl kb hev hgv hal5 hS hSl hSs har hq1 hO hi HM u0' u1' u8' HS5;obtain ⟨k2,num2,S2,op2,A2,len2,cap2,p2⟩:=ev;simp only [EV.val] at hW5 HX5 HRQ HVd HXE HQ5;simp only at u2 u3 u4 u5 u6 u7;rw [hK] at u0;rw [hp] at u8;clear hK hp;go_upto_region 3 with fail;rw [<-hW5,<-hg5];clear hW5 hg5 u0 u1 u2 u3 u4 u5 u6 u7 u8
   obtain ⟨q0,hq0⟩:∃q,(K != 1)=q:=⟨_,rfl⟩
   cases q0 with
   |true =>
    have HOO:Hid (O=[]):=by
     show _=_;rw [HOA.out,if_neg (λ e=>by rw [e.1] at hq0;cases hq0)]
    have HXN:Hid (∀m:Nat,Calls Tryz.prog 94 #[.pointer (some ⟨b,0,none⟩),.agg #[.int .i64 k2,.int .i64 num2,.string S2,.int .i64 op2,.slice A2 len2 cap2,.int .i64 p2]] (W5.drewN m) λ e w'=>e=.returned (.tuple #[])/\Hid (LS w0 w1 w' b P (adv (adv fi O) (exF V F a.val))/\Mv b w w'/\adv (adv (adv fi O) (exF V F a.val)) (acsF V F (l.drop (i+1)))=adv f (acsF V F l))):=λ m=>by
     have hb:=drewN_below W5 m;refine (HXE.out (W5.drewN m) (by rw [HOO.out,adv_nil];exact HM5.out.1.below hb)).mono ?_;rintro e w' ⟨rfl,h1,h2⟩;exact ⟨rfl,h1,(HM5.out.2.trans (Mv.of b hb)).trans h2,HAD.out⟩
    have z2:=HX5.out.c 2 rfl;have z3:=HX5.out.c 3 rfl;have z4:=HX5.out.c 4 rfl;have z5:=HX5.out.c 5 rfl;have z6:=HX5.out.c 6 rfl;have z7:=HX5.out.c 7 rfl;clear HVd HRQ HQ5 HXE
    go_quiet (first|(go_at_call 48;refine Calls.quiet_of_same (lreq_true _ _ _ _)))
    go_wp2_with fail;refine (HXN.out _).mono ?_;rintro e w7 ⟨rfl,HM7⟩;clear z0 z1 z2 z3 z4 z5 z6 z7 z8 y2 HXN HX5;go_wp2_with fail
    go_roundw
    case rel=>exact ⟨i+1,_,by have:=HIM.out;omega,by have h1:=HIM.out;have h2:=HN.out;rw [Go.IntWalk.wrap64_in _ ⟨by omega,by omega⟩];rfl,HM7⟩
    case measure=>have h1:=HIM.out;have h2:=HN.out;rw [Go.IntWalk.wrap64_in _ ⟨by omega,by omega⟩];simp [intOf];omega
   |false =>
    have HOO:Hid (O=if q1=true then [] else [(23,p)]):=by
     have hk:K=1:=by simpa [bne] using hq0
     show _=_;rw [HOA.out]
     cases q1 <;> simp [hk]
    go_region_held3 (λ W=>W.cell? ⟨b,2,none⟩=some (.map (some P.bV))/\W.cell? ⟨g5,0,none⟩=some (.int .i64 K)/\W.cell? ⟨g5,1,none⟩=some (.string S)/\W.cell? ⟨g5,8,none⟩=some (.int .i64 p)) (go_keep) (first|(go_at_call 88;refine HVd.out.mono ?_;rintro e w5 ⟨rfl,⟨x1,x2,x3,x4⟩,HQ6⟩)|(go_at_call 48;refine (HRQ.out _ _ HQ6).mono ?_;rintro e w6 ⟨rfl,⟨v1,v2,v3,v4⟩,HF6⟩))
    all_goals
     have HF7:=h_ HF6.out;rw [<-HOO.out] at HF7;have HC:=h_ (HXE.out w6 HF7.out.1);clear x1 x2 x3 x4 v1 v2 v3 v4 HF6 HQ6 HRQ HVd z0 z1 z8 y2;have z2:=HF7.out.2.2.c 2 rfl;have z3:=HF7.out.2.2.c 3 rfl;have z4:=HF7.out.2.2.c 4 rfl;have z5:=HF7.out.2.2.c 5 rfl;have z6:=HF7.out.2.2.c 6 rfl;have z7:=HF7.out.2.2.c 7 rfl;go_wp2_with fail;refine HC.out.mono ?_;rintro e w7 ⟨rfl,h1,h2⟩
     have HM7:Hid (LS w0 w1 w7 b P (adv (adv fi O) (exF V F a.val))/\Mv b w w7/\adv (adv (adv fi O) (exF V F a.val)) (acsF V F (l.drop (i+1)))=adv f (acsF V F l)):=⟨h1,HF7.out.2.1.trans h2,HAD.out⟩
     clear h1 h2 z2 z3 z4 z5 z6 z7 HC HF7;go_wp2_with fail
     go_roundw
     case rel=>exact ⟨i+1,_,by have:=HIM.out;omega,by have h1:=HIM.out;have h2:=HN.out;rw [Go.IntWalk.wrap64_in _ ⟨by omega,by omega⟩];rfl,HM7⟩
     case measure=>have h1:=HIM.out;have h2:=HN.out;rw [Go.IntWalk.wrap64_in _ ⟨by omega,by omega⟩];simp [intOf];omega
  ·have him':¬(i:Int)<n:=by omega
   have HRS:Hid (LS w0 w1 wr b P (adv f (acsF V F l))/\Mv b w wr):=by
    have hT:=HM.out.2.2;rw [drop_none (by rw [HL.out];omega),acsF,adv_nil] at hT;rw [<-hT];exact ⟨HM.out.1,HM.out.2.1⟩
   clear hi;go_wp2_with fail;go_end0;exact ⟨rfl,HRS.out⟩
def owM (k wt p:Int):List (Int×Int):=if k=3/\(wt=0∨1099511627776<wt) then [(28,p)] else []
def tgM (F:List Spt) (ts:List (List UInt8)) (p:Int):List (Int×Int):=if tgsN F [] ts=true then [] else [(27,p)]
theorem mvF_adv (V:List (List UInt8)) (F:List Spt) (f:Int×Int) (m:GM):adv f (mvF V F m)=adv (adv (adv (adv f (owM m.kind m.wait m.at_)) (exF V F m.guard)) (acsF V F m.acts)) (tgM F m.targets m.at_):=by
 have h1:∀x∈owM m.kind m.wait m.at_,x.1≠0:=λ x hx=>by
  unfold owM at hx
  split at hx
  ·rw [List.mem_singleton.1 hx];simp
  ·cases hx
 rw [<-adv_app _ _ (acsF_ne V F m.acts),<-adv_app _ _ (exF_ne V F m.guard),<-adv_app f _ h1];rfl
theorem lmove_any (hF:LF w0 w1 b P L F V) (h:LS w0 w1 w b P f) (m:GM) (xs:List Value) (hx:DxsAt w0 (gMove m) xs) (hr:m.rng) (hw:m.kind=3->0<=m.wait) :
  Calls Tryz.prog 53 #[.pointer (some ⟨b,0,none⟩),.agg xs.toArray] w λ e w'=>e=.returned (.tuple #[])/\LS w0 w1 w' b P (adv f (mvF V F m))/\Mv b w w':=by
 rw [mvF_adv];obtain ⟨hr1,hr2,hr3,hr4,hr5⟩:=hr;obtain ⟨ev,A1,A2,c1,c2,rfl,hgv,hac,htg⟩:=move_vals' hx;obtain ⟨A2',c2',e2,ht1,ht2,htA⟩:=strs_dx htg
 obtain ⟨rfl,rfl⟩:A2=A2'/\c2=c2':=by injection e2 with a _ b;exact ⟨a,b⟩
 obtain ⟨S,hS⟩:=str_of m.event;rw [hS]
 have hmx:maxLen<=9223372036854775807:=by decide
 have HLB:=h_ hF.lb;have HEX:=h_ (λ (W:World) (g:Int×Int) (hk:LS w0 w1 W b P g)=>lexpr_any hF m.guard hr3 W g ev hgv hk);have HAC:=h_ (λ (W:World) (g:Int×Int) (hk:LS w0 w1 W b P g)=>lacts_any hF hk m.acts A1 m.acts.length c1 hac hr4);have HTG:=h_ (λ (W:World) (g:Int×Int) (hk:LS w0 w1 W b P g)=>ltargets_any hF hk A2 m.targets.length c2 m.targets rfl (by omega) htA hr5)
 obtain ⟨E1,hE1⟩:∃E,exF V F m.guard=E:=⟨_,rfl⟩
 obtain ⟨E2,hE2⟩:∃E,acsF V F m.acts=E:=⟨_,rfl⟩
 have HTE:Hid (tgM F m.targets m.at_=if tgsN F [] m.targets=true then [] else [(27,m.at_)]):=rfl
 obtain ⟨E3,hE3⟩:∃E,tgM F m.targets m.at_=E:=⟨_,rfl⟩
 obtain ⟨qt,hqt⟩:∃q,tgsN F [] m.targets=q:=⟨_,rfl⟩
 have HOE:Hid (owM m.kind m.wait m.at_=if m.kind=3/\(m.wait=0∨1099511627776<m.wait) then [(28,m.at_)] else []):=rfl
 obtain ⟨E0,hE0⟩:∃E,owM m.kind m.wait m.at_=E:=⟨_,rfl⟩
 rw [hE1,hE2,hE3,hE0];rw [hE1] at HEX;rw [hE2] at HAC;rw [hqt] at HTG HTE;rw [hE3] at HTE;rw [hE0] at HOE
 obtain ⟨k,hk⟩:∃k,m.kind=k:=⟨_,rfl⟩
 obtain ⟨wt,hwt⟩:∃k,m.wait=k:=⟨_,rfl⟩
 obtain ⟨gd,hgd⟩:∃k,m.guarded=k:=⟨_,rfl⟩
 obtain ⟨p,hp⟩:∃k,m.at_=k:=⟨_,rfl⟩
 obtain ⟨n1,hn1⟩:∃k,m.acts.length=k:=⟨_,rfl⟩
 obtain ⟨n2,hn2⟩:∃k,m.targets.length=k:=⟨_,rfl⟩
 have HW:Hid (k=3->0<=wt):=λ e=>by rw [<-hwt];exact hw (by rw [hk];exact e)
 rw [hk,hwt,hp] at HOE;rw [hp] at HTE;rw [hn1] at HAC;rw [hn2] at HTG;rw [hk,hwt,hgd,hp,hn1,hn2];have HS:=h_ h;clear hx hr1 hr2 hr3 hr4 hr5 hgv hac htg e2 ht1 ht2 htA hS hmx hE0 hE1 hE2 hE3 hqt hk hwt hgd hp hn1 hn2 hF h hw;obtain ⟨ek,en,es,eo,eA,el,ec,ep⟩:=ev;simp only [EV.val] at HEX ⊢
 obtain ⟨W1,hW1⟩:∃W,W=w.alloc (.cells #[.int .i64 k,.string S,.int .i64 wt,.bool gd,.int .i64 ek,.int .i64 en,.string es,.int .i64 eo,.slice eA el ec,.int .i64 ep,.slice A1 n1 c1,.slice A2 n2 c2,.int .i64 p] 57):=⟨_,rfl⟩
 obtain ⟨g1,hg1⟩:∃g,g=w.heap.size:=⟨_,rfl⟩
 have hal:Below w.heap.size w W1:=by rw [hW1];exact (b_ _ w).alloc (n_ _) _
 have HX:Hid (CB W1 g1 57 [.int .i64 k,.string S,.int .i64 wt,.bool gd,.int .i64 ek,.int .i64 en,.string es,.int .i64 eo,.slice eA el ec,.int .i64 ep,.slice A1 n1 c1,.slice A2 n2 c2,.int .i64 p]):=by rw [hW1,hg1];exact CB.new w _ [.int .i64 k,.string S,.int .i64 wt,.bool gd,.int .i64 ek,.int .i64 en,.string es,.int .i64 eo,.slice eA el ec,.int .i64 ep,.slice A1 n1 c1,.slice A2 n2 c2,.int .i64 p]
 have HGB:Hid (g1≠b):=by have:=HS.out.2.2.lt;rw [hg1];exact λ e=>by omega
 have HS1:=h_ (HS.out.below hal);have HM1:=h_ (Mv.of b hal)
 have HRQ:Hid (∀(q:Bool) (cd:Int) (g:Int×Int) (w6:World),Hid (LS w0 w1 w6 b P g/\Mv b w w6/\CB w6 g1 57 [.int .i64 k,.string S,.int .i64 wt,.bool gd,.int .i64 ek,.int .i64 en,.string es,.int .i64 eo,.slice eA el ec,.int .i64 ep,.slice A1 n1 c1,.slice A2 n2 c2,.int .i64 p])->Calls Tryz.prog 48 #[.pointer (some ⟨b,4,none⟩),.bool q,.int .i64 cd,.int .i64 p] w6 λ e w'=>e=.returned (.tuple #[])/\(w'.cell? ⟨g1,2,none⟩=some (.int .i64 wt)/\w'.cell? ⟨g1,11,none⟩=some (.slice A2 n2 c2)/\w'.cell? ⟨g1,12,none⟩=some (.int .i64 p))/\Hid (LS w0 w1 w' b P (adv g (if q=true then [] else [(cd,p)]))/\Mv b w w'/\CB w' g1 57 [.int .i64 k,.string S,.int .i64 wt,.bool gd,.int .i64 ek,.int .i64 en,.string es,.int .i64 eo,.slice eA el ec,.int .i64 ep,.slice A1 n1 c1,.slice A2 n2 c2,.int .i64 p])):=by
  rintro q cd g w6 ⟨h1,h2,h3⟩;refine (lrequire_any w0 w1 w6 b P g q cd p h1 HLB.out).mono ?_;rintro e w' ⟨rfl,h4,h5⟩;have c:=h3.mv h5 HGB.out;exact ⟨rfl,⟨c.c 2 rfl,c.c 11 rfl,c.c 12 rfl⟩,h4,h2.trans h5,c⟩
 have HQ1:Hid (LS w0 w1 W1.drew b P f/\Mv b w W1.drew/\CB W1.drew g1 57 [.int .i64 k,.string S,.int .i64 wt,.bool gd,.int .i64 ek,.int .i64 en,.string es,.int .i64 eo,.slice eA el ec,.int .i64 ep,.slice A1 n1 c1,.slice A2 n2 c2,.int .i64 p]):=⟨HS1.out.below (b_ _ W1).drew,HM1.out.trans (Mv.of b (b_ _ W1).drew),HX.out.drew⟩
 have z0:=HX.out.c 0 rfl;have z2:=HX.out.c 2 rfl;have z11:=HX.out.c 11 rfl;have z12:=HX.out.c 12 rfl;clear hal;go_enter Tryz.func53,Tryz.ntmps53;go_upto_region 1 with fail;rw [<-hW1,<-hg1];clear hW1 hg1
 obtain ⟨d3,hd3⟩:∃d,(k==3)=d:=⟨_,rfl⟩
 go_upto_if 6 with fail
 go_cut [6] from 7 to 20 (λ s6 wr=>Hid (LS w0 w1 wr b P (adv f E0)/\Mv b w wr/\CB wr g1 57 [.int .i64 k,.string S,.int .i64 wt,.bool gd,.int .i64 ek,.int .i64 en,.string es,.int .i64 eo,.slice eA el ec,.int .i64 ep,.slice A1 n1 c1,.slice A2 n2 c2,.int .i64 p]))
 case first =>
  cases d3
  ·have HO:Hid (E0=[]):=by
    have hk3:¬k=3:=by simpa using hd3
    show _=_;rw [HOE.out,if_neg (λ e=>hk3 e.1)]
   clear HRQ;go_wp2_with fail
   go_meet
   rw [HO.out,adv_nil];exact ⟨HS1.out,HM1.out,HX.out⟩
  ·have hk3:k=3:=by simpa using hd3
   have hw0:=HW.out hk3
   obtain ⟨q1,hq1⟩:∃q,decide (wt > 0)=q:=⟨_,rfl⟩
   obtain ⟨q2,hq2⟩:∃q,decide (wt<=1099511627776)=q:=⟨_,rfl⟩
   have HO:Hid (E0=if (q1&&q2)=true then [] else [(28,p)]):=by
    show _=_;rw [HOE.out,<-hq1,<-hq2]
    by_cases c1:wt > 0
    ·by_cases c2:wt<=1099511627776
     ·rw [if_neg (by omega),decide_eq_true c1,decide_eq_true c2];rfl
     ·rw [if_pos ⟨hk3,by omega⟩,decide_eq_true c1,decide_eq_false c2];rfl
    ·rw [if_pos ⟨hk3,by omega⟩,decide_eq_false c1];rfl
   clear hk3 hw0;go_upto_region 2 with fail;cases q1
   ·first|(go_region_with (first|(go_at_call 48;refine (HRQ.out _ _ _ _ HQ1).mono ?_;rintro e w6 ⟨rfl,⟨v1,v2,v3⟩,HF6⟩)))|fail
    all_goals
     have HF7:=h_ HF6.out;clear v1 v2 v3 HF6 HRQ z0 z2 z11 z12;go_wp2_with fail
     go_meet
     rw [HO.out];exact HF7.out
   ·go_region_held3 (λ W=>W.cell? ⟨g1,2,none⟩=some (.int .i64 wt)/\W.cell? ⟨g1,11,none⟩=some (.slice A2 n2 c2)/\W.cell? ⟨g1,12,none⟩=some (.int .i64 p)) (go_keep) (first|(go_at_call 48;refine (HRQ.out _ _ _ _ HQ1).mono ?_;rintro e w6 ⟨rfl,⟨v1,v2,v3⟩,HF6⟩))
    all_goals
     have HF7:=h_ HF6.out;clear v1 v2 v3 HF6 HRQ z0 z2 z11 z12;go_wp2_with fail
     go_meet
     rw [HO.out];exact HF7.out
 case rest =>
 have HQ:=h_ hcut.out;clear hcut hd3 z0 z2 z11 z12 HS1 HM1 HX HQ1;have HC1:=h_ (HEX.out wc _ HQ.out.1);have z4:=HQ.out.2.2.c 4 rfl;have z5:=HQ.out.2.2.c 5 rfl;have z6:=HQ.out.2.2.c 6 rfl;have z7:=HQ.out.2.2.c 7 rfl;have z8:=HQ.out.2.2.c 8 rfl;have z9:=HQ.out.2.2.c 9 rfl;go_wp2_with fail;refine HC1.out.mono ?_;rintro e w2 ⟨rfl,h1,h2⟩
 have HQ2:Hid (LS w0 w1 w2 b P (adv (adv f E0) E1)/\Mv b w w2/\CB w2 g1 57 [.int .i64 k,.string S,.int .i64 wt,.bool gd,.int .i64 ek,.int .i64 en,.string es,.int .i64 eo,.slice eA el ec,.int .i64 ep,.slice A1 n1 c1,.slice A2 n2 c2,.int .i64 p]):=⟨h1,HQ.out.2.1.trans h2,HQ.out.2.2.mv h2 HGB.out⟩
 have HC2:=h_ (HAC.out w2 _ h1);clear h1 h2 z4 z5 z6 z7 z8 z9 HC1 HQ;have z10:=HQ2.out.2.2.c 10 rfl;go_wp2_with fail;refine HC2.out.mono ?_;rintro e w3 ⟨rfl,h1,h2⟩
 have HQ3:Hid (LS w0 w1 w3 b P (adv (adv (adv f E0) E1) E2)/\Mv b w w3/\CB w3 g1 57 [.int .i64 k,.string S,.int .i64 wt,.bool gd,.int .i64 ek,.int .i64 en,.string es,.int .i64 eo,.slice eA el ec,.int .i64 ep,.slice A1 n1 c1,.slice A2 n2 c2,.int .i64 p]):=⟨h1,HQ2.out.2.1.trans h2,HQ2.out.2.2.mv h2 HGB.out⟩
 have HTd:Hid (Calls Tryz.prog 95 #[.pointer (some ⟨b,0,none⟩),.slice A2 n2 c2] w3.drew λ e w'=>e=.returned (.bool qt)/\(w'.cell? ⟨g1,2,none⟩=some (.int .i64 wt)/\w'.cell? ⟨g1,11,none⟩=some (.slice A2 n2 c2)/\w'.cell? ⟨g1,12,none⟩=some (.int .i64 p))/\Hid (LS w0 w1 w' b P (adv (adv (adv f E0) E1) E2)/\Mv b w w'/\CB w' g1 57 [.int .i64 k,.string S,.int .i64 wt,.bool gd,.int .i64 ek,.int .i64 en,.string es,.int .i64 eo,.slice eA el ec,.int .i64 ep,.slice A1 n1 c1,.slice A2 n2 c2,.int .i64 p])):=by
  have hd:Below w3.heap.size w3 w3.drew:=(b_ _ w3).drew;refine (HTG.out w3.drew _ (h1.below hd)).mono ?_;rintro e w' ⟨rfl,hb⟩;have hb':=hd.trans hb;have c:=HQ3.out.2.2.below hb';exact ⟨rfl,⟨c.c 2 rfl,c.c 11 rfl,c.c 12 rfl⟩,h1.below hb',HQ3.out.2.1.trans (Mv.of b hb'),c⟩
 clear h1 h2 z10 HC2 HQ2;have z2:=HQ3.out.2.2.c 2 rfl;have z11:=HQ3.out.2.2.c 11 rfl;have z12:=HQ3.out.2.2.c 12 rfl;go_upto_region 5 with fail
 go_region_held3 (λ W=>W.cell? ⟨g1,2,none⟩=some (.int .i64 wt)/\W.cell? ⟨g1,11,none⟩=some (.slice A2 n2 c2)/\W.cell? ⟨g1,12,none⟩=some (.int .i64 p)) (go_keep) (first|(go_at_call 95;refine HTd.out.mono ?_;rintro e w5 ⟨rfl,⟨x1,x2,x3⟩,HQ5⟩)|(go_at_call 48;refine (HRQ.out _ _ _ _ HQ5).mono ?_;rintro e w6 ⟨rfl,⟨v1,v2,v3⟩,HF6⟩))
 all_goals
  have HF7:=h_ HF6.out;clear x1 x2 x3 v1 v2 v3 HF6 HQ5 HTd HRQ z2 z11 z12;go_wp2_with fail;go_end0;refine ⟨rfl,?_,HF7.out.2.1⟩;rw [HTE.out];exact HF7.out.1
end Go.Proofs.YtocecpghoncmgaaGreatDoor
