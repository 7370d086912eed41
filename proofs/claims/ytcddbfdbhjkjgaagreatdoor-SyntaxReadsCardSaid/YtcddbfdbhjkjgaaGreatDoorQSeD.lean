import Derived.Test.YtcddbfdbhjkjgaaGreatDoorQh
import Derived.Test.YtcddbfdbhjkjgaaGreatDoorXA
import Derived.Test.YtcddbfdbhjkjgaaGreatDoorEA
import Derived.Test.YtcddbfdbhjkjgaaGreatDoorYF
import Derived.Test.YtcddbfdbhjkjgaaGreatDoorQXS
import Derived.Test.YtcddbfdbhjkjgaaGreatDoorXE
import Derived.Test.YtcddbfdbhjkjgaaGreatDoorXF
import Derived.Deep.QuietTactic
import Derived.BigQuiet
import Derived.StillTailTactics
import Derived.Deep.Slices
import Derived.SizedLaws
import Derived.OpenShut
import Derived.Test.YtcddbfdbhjkjgaaGreatDoorQVaX
import Derived.Lib.SlicesS
import Derived.Deep.RegionHeld3
import Derived.Laws.OwnMore
import Derived.Laws.AppendOwnNone
import Derived.ArgAppend
import Derived.Maps.AppendAt
import Derived.Deep.RegionLawGrows
set_option maxHeartbeats 12800000
set_option maxRecDepth 20000
namespace Go.Proofs.YtcddbfdbhjkjgaaGreatDoor
open Go.RowKit Go.ChangeShapes
theorem sgAt_of {n:String} {rest:List (String×DataW Unit)} {W:World} (hg:Tryz.prog.globalNamed n=some 4)
  (h:laidMet Tryz.prog ((n,Rows.laid_pavane_expr_signs)::rest) W):SgAt W:=by
 have e:(Rows.laid_pavane_expr_signs:DataW Unit)=.agg (sgs.map fun k=>.lit (.string k)):=by kernel_rfl
 rw [e] at h
 obtain ⟨ps,⟨g',t',cs,fuel,p,q,hg',ht',hvar,hd,_,_⟩,_⟩:=h
 obtain rfl:=Option.some.inj (hg.symm.trans hg')
 obtain rfl:=Option.some.inj ((show (Tryz.prog.globals[4]?).map (·.type)=some 146 by kernel_rfl).symm.trans ht')
 have hcs:=cells_of_texts (n:=16) Tryz.underlying146 Tryz.underlying9 (by kernel_rfl) (by kernel_rfl) hd
 unfold World.var? at hvar
 rw [hg] at hvar
 simp only [Option.bind_some] at hvar
 split at hvar
 ·rename_i cs' t fr hh
  injection hvar with hvar
  refine ⟨t,fr,?_⟩
  rw [hh,hvar]
  congr 2
  apply Array.toList_inj.1
  rw [hcs]
  rfl
 ·cases hvar
end Go.Proofs.YtcddbfdbhjkjgaaGreatDoor
namespace Go.Proofs.YtcddbfdbhjkjgaaGreatDoor
open Go.RowKit
theorem pair_chart (w:World) (y0 y1 y2 y3 y4 y5 y6 y7 y8 y9:Value) (c p:Int):∃(W:World) (g1 g2:Nat),W=(w.alloc (.cells #[y0,y1,y2,y3,y4,y5,y6,y7,y8,y9] 30)).alloc (.cells #[.int .i64 c,.int .i64 p] 33) ∧
  g1=w.heap.size∧g2=w.heap.size+1∧Hid (CB W g1 30 [y0,y1,y2,y3,y4,y5,y6,y7,y8,y9])∧Hid (FtB W g2 (.int .i64 c) (.int .i64 p))∧Hid (Below w.heap.size w W):=by
 have e:(w.alloc (.cells #[y0,y1,y2,y3,y4,y5,y6,y7,y8,y9] 30)).heap.size=w.heap.size+1:=by simp
 refine ⟨_,_,_,rfl,rfl,rfl,(CB.new w _ [y0,y1,y2,y3,y4,y5,y6,y7,y8,y9]).alloc _,?_,((b_ _ w).alloc (n_ _) _).alloc (by omega) _⟩
 rw [←e]
 exact FtB.new _ _ _
end Go.Proofs.YtcddbfdbhjkjgaaGreatDoor
namespace Go.Proofs.YtcddbfdbhjkjgaaGreatDoor
def Ex.size:Ex→Nat
 |.one _ x _=>1+x.size
 |.both _ x y=>1+(x.size+y.size)
 |_=>1
theorem Hd.len {t:List UInt8} (h:Hd t):1≤t.length:=by
 obtain ⟨c,r,rfl,_⟩:=h
 simp
def node (k n:Int) (s:List UInt8) (o:Int) (l:List (Option Ex)):Option Ex :=
 if k=1∧0≤n∧n≤9223372036854775807∧s=[]∧o=0∧l=[] then some (.int n 0)
 else if k=2∧n=0∧isNm s=true∧o=0∧l=[] then some (.var s 0)
 else if k=3∧n=0∧isNm s=true∧o=0∧l=[] then some (.inn s 0)
 else match l with
  |[some x]=>if k=4∧n=0∧s=[]∧(o=14∨o=15) then some (.one o x 0) else none
  |[some x,some y]=>if k=5∧n=0∧s=[]∧rowOf o<6 then some (.both o x y) else none
  |_=>none
mutual
def GX.ex:GX→Option Ex
 |.mk k n s o l _=>node k n s o (GX.exs l)
def GX.exs:List GX→List (Option Ex)
 |[]=>[]
 |x::l=>x.ex::GX.exs l
end
end Go.Proofs.YtcddbfdbhjkjgaaGreatDoor
namespace Go.Proofs.YtcddbfdbhjkjgaaGreatDoor
open Go.RowKit
mutual
def sm (pl:Bool):GX→GX→Bool
 |.mk k n s o l p,.mk k' n' s' o' l' p'=>(k==k')&&(n==n')&&(s==s')&&(o==o')&&(!pl || (p==p'))&&decide (l.length=l'.length)&&sms pl l l'
def sms (pl:Bool):List GX→List GX→Bool
 |x::l,y::l'=>sm pl x y&&sms pl l l'
 |_,_=>true
end
theorem sms_cons (pl:Bool) (x y:GX) (l l':List GX):sms pl (x::l) (y::l')=(sm pl x y&&sms pl l l'):=by rw [sms]
theorem sms_nil (pl:Bool) (l:List GX):sms pl [] l=true:=by cases l <;> rw [sms] <;> intros <;> contradiction
mutual
theorem sm_true:∀x y:GX,sm true x y=true ↔ x=y
 |.mk k n s o l p,.mk k' n' s' o' l' p'=>by
  rw [sm]
  simp only [Bool.and_eq_true,beq_iff_eq,Bool.not_true,Bool.false_or,decide_eq_true_eq,GX.mk.injEq]
  constructor
  ·rintro ⟨⟨⟨⟨⟨⟨h1,h2⟩,h3⟩,h4⟩,h5⟩,h6⟩,h7⟩
   exact ⟨h1,h2,h3,h4,(sms_true l l' h6).1 h7,h5⟩
  ·rintro ⟨h1,h2,h3,h4,h5,h6⟩
   exact ⟨⟨⟨⟨⟨⟨h1,h2⟩,h3⟩,h4⟩,h6⟩,by rw [h5]⟩,(sms_true l l' (by rw [h5])).2 h5⟩
theorem sms_true:∀l l':List GX,l.length=l'.length→(sms true l l'=true ↔ l=l')
 |[],[],_=>by simp [sms_nil]
 |[],_::_,h=>by simp at h
 |_::_,[],h=>by simp at h
 |x::l,y::l',h=>by
  rw [sms_cons,Bool.and_eq_true,sm_true x y,sms_true l l' (by simpa using h),List.cons.injEq]
end
theorem ers_len:∀l:List GX,(GX.ers l).length=l.length
 |[]=>by rw [GX.ers]
 |x::l=>by rw [GX.ers,List.length_cons,List.length_cons,ers_len l]
mutual
theorem sm_false:∀x y:GX,sm false x y=true ↔ x.er=y.er
 |.mk k n s o l p,.mk k' n' s' o' l' p'=>by
  rw [sm,GX.er,GX.er]
  simp only [Bool.and_eq_true,beq_iff_eq,Bool.not_false,Bool.true_or,decide_eq_true_eq,GX.mk.injEq,and_true]
  constructor
  ·rintro ⟨⟨⟨⟨⟨h1,h2⟩,h3⟩,h4⟩,h6⟩,h7⟩
   exact ⟨h1,h2,h3,h4,(sms_false l l' h6).1 h7⟩
  ·rintro ⟨h1,h2,h3,h4,h5⟩
   have h6:l.length=l'.length:=by rw [←ers_len l,←ers_len l',h5]
   exact ⟨⟨⟨⟨⟨h1,h2⟩,h3⟩,h4⟩,h6⟩,(sms_false l l' h6).2 h5⟩
theorem sms_false:∀l l':List GX,l.length=l'.length→(sms false l l'=true ↔ GX.ers l=GX.ers l')
 |[],[],_=>by simp [sms_nil]
 |[],_::_,h=>by simp at h
 |_::_,[],h=>by simp at h
 |x::l,y::l',h=>by
  rw [sms_cons,Bool.and_eq_true,sm_false x y,sms_false l l' (by simpa using h),GX.ers,GX.ers,List.cons.injEq]
end
theorem head_cases (pl:Bool) (k k' n n' o o' p p':Int) (s s':List UInt8) (m m':Nat) :
  ((k==k')=false)∨((k==k')=true∧(n==n')=false)∨((k==k')=true∧(n==n')=true∧(s==s')=false)∨((k==k')=true∧(n==n')=true∧(s==s')=true∧(o==o')=false) ∨
  ((k==k')=true∧(n==n')=true∧(s==s')=true∧(o==o')=true∧pl=true∧(p==p')=false) ∨
  ((k==k')=true∧(n==n')=true∧(s==s')=true∧(o==o')=true∧(pl=false∨(pl=true∧(p==p')=true))∧((m:Int)==m')=false) ∨
  ((k==k')=true∧(n==n')=true∧(s==s')=true∧(o==o')=true∧(pl=false∨(pl=true∧(p==p')=true))∧((m:Int)==m')=true):=by
 cases k==k' <;> cases n==n' <;> cases s==s' <;> cases o==o' <;> cases pl <;> cases p==p' <;> cases (m:Int)==m' <;> simp
theorem GV.out {w:World} {lo hi:Nat} {x:GX} {v:EV} (h:GV w lo hi x v):v.kind=x.kind∧v.num=x.num∧v.name.data.toList=x.name∧v.op=x.op∧v.p=x.p∧v.len=x.subs.length∧v.len≤v.cap∧v.cap≤maxLen∧GRow w lo hi x.subs v.A 0:=by
 cases x
 unfold GV at h
 exact h
theorem sm_eq (pl:Bool) (x y:GX):sm pl x y=((x.kind==y.kind)&&(x.num==y.num)&&(x.name==y.name)&&(x.op==y.op)&&(!pl || (x.p==y.p))&&decide (x.subs.length=y.subs.length)&&sms pl x.subs y.subs):=by
 cases x;cases y;rw [sm];rfl
theorem sub_size {x:GX} {i:Nat} {y:GX} (h:x.subs[i]?=some y):SizeOf.sizeOf y<SizeOf.sizeOf x:=by
 cases x with
 |mk k n s o l p =>
  have hm:y∈l:=List.mem_of_getElem? h
  have:=List.sizeOf_lt_of_mem hm
  simp only [GX.mk.sizeOf_spec]
  omega
end Go.Proofs.YtcddbfdbhjkjgaaGreatDoor
namespace Go.Proofs.YtcddbfdbhjkjgaaGreatDoor
open Go.RowKit
def ES (x:GX):Prop:=∀(y:GX) (pl:Bool) (w:World) (v u:EV),GV w 0 w.heap.size x v→GV w 0 w.heap.size y u →
 Calls Tryz.prog 77 #[v.val,u.val,.bool pl] w fun e w'=>e=.returned (.bool (sm pl x y))∧Below w.heap.size w w'
theorem boxes_new (w:World) (v u:EV):∃(W:World) (g1 g2:Nat),W=(w.alloc (.cells #[.int .i64 v.kind,.int .i64 v.num,.string v.name,.int .i64 v.op,.slice v.A v.len v.cap,.int .i64 v.p] 54)).alloc (.cells #[.int .i64 u.kind,.int .i64 u.num,.string u.name,.int .i64 u.op,.slice u.A u.len u.cap,.int .i64 u.p] 54) ∧
  g1=w.heap.size∧g2=w.heap.size+1∧Hid (XpB W g1 v)∧Hid (XpB W g2 u)∧Hid (Below w.heap.size w W):=by
 have e:(w.alloc (.cells #[.int .i64 v.kind,.int .i64 v.num,.string v.name,.int .i64 v.op,.slice v.A v.len v.cap,.int .i64 v.p] 54)).heap.size=w.heap.size+1:=by simp
 refine ⟨_,_,_,rfl,rfl,rfl,(XpB.new w v).alloc _,?_,((b_ _ w).alloc (n_ _) _).alloc (by omega) _⟩
 rw [←e]
 exact XpB.new _ u
theorem drop_cons2 {α:Type} {l:List α} {i:Nat} {x:α} (h:l[i]?=some x):l.drop i=x::l.drop (i+1):=by
 obtain ⟨hl,he⟩:=List.getElem?_eq_some_iff.1 h
 rw [List.drop_eq_getElem_cons hl,he]
theorem es_step (x:GX) (ih:∀(i:Nat) (z:GX),x.subs[i]?=some z→ES z):ES x:=by
 intro y pl w v u hx hy
 obtain ⟨W0,g1,g2,hW0,hg1,hg2,HX,HY,HB⟩:=boxes_new w v u
 have HR:=sm_eq pl x y
 obtain ⟨a1,a2,a3,a4,a5,a6,_,_,a9⟩:=hx.out
 obtain ⟨b1,b2,b3,b4,b5,b6,_,_,b9⟩:=hy.out
 rw [←a1,←a2,←a3,←a4,←a5,←a6,←b1,←b2,←b3,←b4,←b5,←b6] at HR
 have HLX:=h_ a6
 have HL9:Hid (v.len≤9223372036854775807):=by
  have h1:=hx.out.2.2.2.2.2.2.1
  have h2:=hx.out.2.2.2.2.2.2.2.1
  unfold maxLen at h2
  exact Nat.le_trans h1 (by omega)
 have HLY:=h_ b6
 obtain ⟨xs,hxs⟩:∃xs,x.subs=xs:=⟨_,rfl⟩
 obtain ⟨ys,hys⟩:∃ys,y.subs=ys:=⟨_,rfl⟩
 rw [hxs] at HR HLX a9 ih
 rw [hys] at HR HLY b9
 obtain ⟨R,hR⟩:∃R,sm pl x y=R:=⟨_,rfl⟩
 rw [hR] at HR ⊢
 replace HR:=h_ HR
 have HIH:=h_ ih
 have HRX:=h_ a9
 have HRY:=h_ b9
 have hg10:w.heap.size≤g1:=by omega
 have hg20:w.heap.size≤g2:=by omega
 obtain ⟨k,num,S,op,A,len,cap,p⟩:=v
 obtain ⟨k',num',S',op',A',len',cap',p'⟩:=u
 simp only [EV.val]
 simp only at hW0 HR HLX HLY HRX HRY HL9
 have c:=head_cases pl k k' num num' op op' p p' S.data.toList S'.data.toList len len'
 rw [←Lib.toList_data,←Lib.toList_data] at c HR
 have z0:=HX.out.c0
 have z1:=HX.out.c1
 have z2:=HX.out.c2
 have z3:=HX.out.c3
 have z4:=HX.out.c4
 have z5:=HX.out.c5
 have y0:=HY.out.c0
 have y1:=HY.out.c1
 have y2:=HY.out.c2
 have y3:=HY.out.c3
 have y4:=HY.out.c4
 have y5:=HY.out.c5
 simp only at z0 z1 z2 z3 z4 z5 y0 y1 y2 y3 y4 y5
 clear hx hy hxs hys hR ih a1 a2 a3 a4 a5 a6 a9 b1 b2 b3 b4 b5 b6 b9
 go_enter Tryz.func77,Tryz.ntmps77
 go_upto_region 1 with fail
 rw [←hW0,←hg2,←hg1]
 clear hW0 hg1 hg2
 rcases c with c1|⟨c1,c2⟩|⟨c1,c2,c3⟩|⟨c1,c2,c3,c4⟩|⟨c1,c2,c3,c4,rfl,c5⟩|⟨c1,c2,c3,c4,c5,c6⟩|⟨c1,c2,c3,c4,c5,c6⟩
 ·have q1:(k != k')=true:=by simp [bne,c1]
  obtain rfl:R=false:=by rw [HR.out,c1];simp
  go_wp2_with fail
  go_ret
  exact ⟨rfl,HB.out⟩
 ·have q1:(k != k')=false:=by simp [bne,c1]
  have q2:(num != num')=true:=by simp [bne,c2]
  obtain rfl:R=false:=by rw [HR.out,c1,c2];simp
  go_wp2_with fail
  go_ret
  exact ⟨rfl,HB.out⟩
 ·have q1:(k != k')=false:=by simp [bne,c1]
  have q2:(num != num')=false:=by simp [bne,c2]
  obtain rfl:R=false:=by rw [HR.out,c1,c2,c3];simp
  go_wp2_with fail
  go_ret
  exact ⟨rfl,HB.out⟩
 ·have q1:(k != k')=false:=by simp [bne,c1]
  have q2:(num != num')=false:=by simp [bne,c2]
  have q4:(op != op')=true:=by simp [bne,c4]
  obtain rfl:R=false:=by rw [HR.out,c1,c2,c3,c4];simp
  go_wp2_with fail
  go_ret
  exact ⟨rfl,HB.out⟩
 ·have q1:(k != k')=false:=by simp [bne,c1]
  have q2:(num != num')=false:=by simp [bne,c2]
  have q4:(op != op')=false:=by simp [bne,c4]
  have q5:(p != p')=true:=by simp [bne,c5]
  obtain rfl:R=false:=by rw [HR.out,c1,c2,c3,c4,c5];simp
  go_wp2_with fail
  go_ret
  exact ⟨rfl,HB.out⟩
 ·have q1:(k != k')=false:=by simp [bne,c1]
  have q2:(num != num')=false:=by simp [bne,c2]
  have q4:(op != op')=false:=by simp [bne,c4]
  have q6:((len:Int) != len')=true:=by simp only [bne,c6];rfl
  obtain rfl:R=false:=by
   have:len≠len':=fun h=>by rw [h] at c6;simp at c6
   rw [HR.out,decide_eq_false this];simp
  rcases c5 with rfl|⟨rfl,c5⟩
  ·go_wp2_with fail
   go_ret
   exact ⟨rfl,HB.out⟩
  ·have q5:(p != p')=false:=by simp [bne,c5]
   go_wp2_with fail
   go_ret
   exact ⟨rfl,HB.out⟩
 ·have q1:(k != k')=false:=by simp [bne,c1]
  have q2:(num != num')=false:=by simp [bne,c2]
  have q4:(op != op')=false:=by simp [bne,c4]
  have hlen:len=len':=by have:=eq_of_beq c6;omega
  subst hlen
  have q6:((len:Int) != len)=false:=by simp [bne]
  have HRR:Hid (sms pl xs ys=R):=by
   show _=_
   rw [HR.out,c1,c2,c3,c4,decide_eq_true rfl]
   rcases c5 with rfl|⟨rfl,c5⟩
   ·simp
   ·rw [c5];simp
  have q5:pl=true→(p != p')=false:=fun h=>by
   rcases c5 with rfl|⟨rfl,c5⟩
   ·cases h
   ·simp [bne,c5]
  have HQ:=h_ q5
  clear c5 c6 q5 HR
  go_cut [53] from 9 to 52 (fun s53 wr=>s53=.bool false∧W0=wr)
  case first =>
   cases pl
   ·go_wp2_with fail
    go_meet
    exact ⟨rfl,rfl⟩
   ·have q5:=HQ.out rfl
    go_wp2_with fail
    go_meet
    exact ⟨rfl,rfl⟩
  case rest =>
  obtain ⟨rfl,rfl⟩:=hcut
  clear z0 z1 z2 z3 z4 z5 y0 y1 y2 y3 y4 y5 q1 q2 q4 q6 c1 c2 c3 c4
  go_wp2_with fail
  go_loopw [7] (fun iv wr=>∃i:Nat,i≤len∧iv=.int .i64 (i:Int)∧Hid (sms pl (xs.drop i) (ys.drop i)=R)∧Hid (Below w.heap.size w wr)∧Hid (XpB wr g1 ⟨k,num,S,op,A,len,cap,p⟩)∧Hid (XpB wr g2 ⟨k',num',S',op',A',len,cap',p'⟩)) (fun iv _=>len-(intOf iv).toNat)
  case atStart=>exact ⟨0,Nat.zero_le _,rfl,HRR,HB,HX,HY⟩
  case round =>
   obtain ⟨i,hi,rfl,HS,HBW,HXW,HYW⟩:=hrel
   have z4:=HXW.out.c4
   have y4:=HYW.out.c4
   simp only at z4 y4
   by_cases him:i<len
   ·have HIM:=h_ him
    have him':(i:Int)<len:=by omega
    obtain ⟨x',hx'⟩:∃x',xs[i]?=some x':=⟨_,List.getElem?_eq_getElem (by rw [←HLX.out];exact him)⟩
    obtain ⟨y',hy'⟩:∃y',ys[i]?=some y':=⟨_,List.getElem?_eq_getElem (by rw [←HLY.out];exact him)⟩
    obtain ⟨g,o,v',rfl,_,hg,hev,hgv⟩:=HRX.out.get i x' hx'
    obtain ⟨g',o',u',rfl,_,hg',hev',hgv'⟩:=HRY.out.get i y' hy'
    rw [Nat.zero_add] at hev hev'
    obtain ⟨x0,x1,x2,x3,x4,x5⟩:=hev.same (HBW.out.block g hg)
    obtain ⟨w0,w1,w2,w3,w4,w5⟩:=hev'.same (HBW.out.block g' hg')
    have HC:=h_ (fun (W:World) (hb:Below w.heap.size w W)=>HIH.out i x' hx' y' pl W v' u' ((GV.below hgv hb (n_ _)).mono (n_ _) hb.size) ((GV.below hgv' hb (n_ _)).mono (n_ _) hb.size))
    have HSS:Hid ((sm pl x' y' && sms pl (xs.drop (i+1)) (ys.drop (i+1)))=R):=by
     have:=HS.out
     rw [drop_cons2 hx',drop_cons2 hy',sms_cons] at this
     exact this
    obtain ⟨c,hc⟩:∃c,sm pl x' y'=c:=⟨_,rfl⟩
    rw [hc] at HSS HC
    obtain ⟨k2,num2,S2,op2,A2,len2,cap2,p2⟩:=v'
    obtain ⟨k3,num3,S3,op3,A3,len3,cap3,p3⟩:=u'
    simp only [EV.val] at HC
    simp only at x0 x1 x2 x3 x4 x5 w0 w1 w2 w3 w4 w5
    clear hev hev' hgv hgv' hx' hy' hc hg hg' HS
    go_wp2_with fail
    go_still_tail 11,(by kernel_rfl)
    change wpList _ _ _ _ _ (World.drew wr)
    obtain ⟨W1,hW1⟩:∃W1,W1=wr.drew:=⟨_,rfl⟩
    have HB1:Hid (Below w.heap.size w W1):=by rw [hW1];exact HBW.out.trans (b_ _ wr).drew
    have HX1:Hid (XpB W1 g1 ⟨k,num,S,op,some ⟨g,o,none⟩,len,cap,p⟩):=by rw [hW1];exact HXW.out
    have HY1:Hid (XpB W1 g2 ⟨k',num',S',op',some ⟨g',o',none⟩,len,cap',p'⟩):=by rw [hW1];exact HYW.out
    have HCC:=h_ (HC.out W1 HB1.out)
    rw [←hW1]
    clear hW1 HC HXW HYW HBW z4 y4 x0 x1 x2 x3 x4 x5 w0 w1 w2 w3 w4 w5
    go_wp2_with fail
    refine HCC.out.mono ?_
    rintro e w2 ⟨rfl,hb⟩
    have HB2:=h_ (HB1.out.trans (hb.mono HB1.out.size))
    have HX2:=h_ (HX1.out.below hb)
    have HY2:=h_ (HY1.out.below hb)
    clear hb HCC HB1 HX1 HY1
    cases c
    ·obtain rfl:R=false:=by rw [←HSS.out];rfl
     go_wp2_with fail
     go_ret
     exact ⟨rfl,HB2.out⟩
    ·have HS2:Hid (sms pl (xs.drop (i+1)) (ys.drop (i+1))=R):=by
      have:=HSS.out
      rw [Bool.true_and] at this
      exact this
     go_wp2_with fail
     go_roundw
     case rel=>exact ⟨i+1,by have:=HIM.out;omega,by have h1:=HIM.out;have h2:=HL9.out;rw [Go.IntWalk.wrap64_in _ ⟨by omega,by omega⟩];rfl,HS2,HB2,HX2,HY2⟩
     case measure=>have h1:=HIM.out;have h2:=HL9.out;rw [Go.IntWalk.wrap64_in _ ⟨by omega,by omega⟩];simp [intOf];omega
   ·have him':¬(i:Int)<len:=by omega
    obtain rfl:R=true:=by
     rw [←HS.out,List.drop_eq_nil_of_le (by rw [←HLX.out];omega),sms_nil]
    go_wp2_with fail
    go_ret
    exact ⟨rfl,HBW.out⟩
theorem es_all:∀(m:Nat) (x:GX),SizeOf.sizeOf x≤m→ES x
 |0,x,hm=>by
  obtain ⟨k,n,s,o,l,p⟩:=x
  simp only [GX.mk.sizeOf_spec] at hm
  omega
 |m+1,x,hm=>es_step x (fun i z hz=>es_all m z (by have:=sub_size hz;omega))
theorem esame_any (w:World) (x y:GX) (v u:EV) (pl:Bool) (hx:GV w 0 w.heap.size x v) (hy:GV w 0 w.heap.size y u) :
  Calls Tryz.prog 77 #[v.val,u.val,.bool pl] w fun e w'=>e=.returned (.bool (sm pl x y))∧Below w.heap.size w w' :=
 es_all _ x (n_ _) y pl w v u hx hy
end Go.Proofs.YtcddbfdbhjkjgaaGreatDoor
namespace Go.Proofs.YtcddbfdbhjkjgaaGreatDoor
open Go.RowKit Go.Deep Go.ChangeShapes Go.WideShapes
theorem GRow.of {w:World} {lo hi:Nat} {A:Option Addr}:∀{l:List GX} {i:Nat},(∀(j:Nat) (x:GX),l[j]?=some x→∃g o v,A=some ⟨g,o,none⟩∧lo≤g∧g<hi∧EvAt w g (o+(i+j)*6) v∧GV w lo hi x v)→GRow w lo hi l A i
 |[],_,_=>by unfold GRow;trivial
 |x::l,i,h=>by
  unfold GRow
  refine ⟨by simpa using h 0 x rfl,GRow.of fun j y hy=>?_⟩
  have:=h (j+1) y (by simpa using hy)
  rw [show i+1+j=i+(j+1) from by omega]
  exact this
mutual
def GX.fit:GX→Prop
 |.mk _ _ _ _ l _=>l.length*72≤140737488351232∧GX.fits l
def GX.fits:List GX→Prop
 |[]=>True
 |x::l=>x.fit∧GX.fits l
end
instance:Inhabited GX:=⟨.mk 0 0 [] 0 [] 0⟩
instance:Inhabited EV:=⟨⟨0,0,⟨#[]⟩,0,none,0,0,0⟩⟩
end Go.Proofs.YtcddbfdbhjkjgaaGreatDoor
namespace Go.Proofs.YtcddbfdbhjkjgaaGreatDoor
open Go.RowKit Go.Deep Go.ChangeShapes Go.WideShapes
def StrAt (w:World) (A:Option Addr) (xs:List ByteArray):Prop:=∀(i:Nat) (s:ByteArray),xs[i]?=some s→∃g o,A=some ⟨g,o,none⟩∧g<w.heap.size∧w.cell? ⟨g,o+i,none⟩=some (.string s)
def IntAt (w:World) (A:Option Addr) (xs:List Int):Prop:=∀(i:Nat) (n:Int),xs[i]?=some n→∃g o,A=some ⟨g,o,none⟩∧g<w.heap.size∧w.cell? ⟨g,o+i,none⟩=some (.int .i64 n)
theorem StrAt.below {w w':World} {A:Option Addr} {xs:List ByteArray} (h:StrAt w A xs) (hb:Below w.heap.size w w'):StrAt w' A xs:=fun i s hs=>by
 obtain ⟨g,o,e,hg,hc⟩:=h i s hs
 exact ⟨g,o,e,Nat.lt_of_lt_of_le hg hb.size,by rw [hb.cell hg];exact hc⟩
theorem IntAt.below {w w':World} {A:Option Addr} {xs:List Int} (h:IntAt w A xs) (hb:Below w.heap.size w w'):IntAt w' A xs:=fun i s hs=>by
 obtain ⟨g,o,e,hg,hc⟩:=h i s hs
 exact ⟨g,o,e,Nat.lt_of_lt_of_le hg hb.size,by rw [hb.cell hg];exact hc⟩
end Go.Proofs.YtcddbfdbhjkjgaaGreatDoor
namespace Go.Proofs.YtcddbfdbhjkjgaaGreatDoor
open Go.RowKit
structure NV where
 nA:Option Addr
 nL:Nat
 nC:Nat
 mA:Option Addr
 mL:Nat
 mC:Nat
 aA:Option Addr
 aL:Nat
 aC:Nat
def NV.val (e:NV):Value:=.agg #[.slice e.nA e.nL e.nC,.slice e.mA e.mL e.mC,.slice e.aA e.aL e.aC]
structure NvIs (w:World) (e:NV) (xs zs:List ByteArray) (ns:List Int):Prop where
 nl:xs.length=e.nL
 ml:ns.length=e.mL
 al:zs.length=e.aL
 nc:e.nL≤e.nC∧e.nC≤maxLen
 mc:e.mL≤e.mC∧e.mC≤maxLen
 ac:e.aL≤e.aC∧e.aC≤maxLen
 nm:StrAt w e.nA xs
 ms:IntAt w e.mA ns
 as_:StrAt w e.aA zs
theorem NvIs.below {w w':World} {e:NV} {xs zs:List ByteArray} {ns:List Int} (h:NvIs w e xs zs ns) (hb:Below w.heap.size w w'):NvIs w' e xs zs ns :=
 ⟨h.nl,h.ml,h.al,h.nc,h.mc,h.ac,h.nm.below hb,h.ms.below hb,h.as_.below hb⟩
def EnB (T:TypeId) (w:World) (g:Nat) (e:NV):Prop:=w.heap[g]?=some (.cells #[.slice e.nA e.nL e.nC,.slice e.mA e.mL e.mC,.slice e.aA e.aL e.aC] T (0,0))
section
variable {T:TypeId} {w w':World} {g:Nat} {e:NV}
theorem EnB.lt (h:EnB T w g e):g<w.heap.size:=by
 rcases Nat.lt_or_ge g w.heap.size with hlt|hge
 ·exact hlt
 ·unfold EnB at h;rw [Array.getElem?_eq_none hge] at h;cases h
theorem EnB.c0 (h:EnB T w g e):w.cell? ⟨g,0,none⟩=some (.slice e.nA e.nL e.nC):=cell_of_row w g 0 _ _ _ h
theorem EnB.c1 (h:EnB T w g e):w.cell? ⟨g,1,none⟩=some (.slice e.mA e.mL e.mC):=cell_of_row w g 1 _ _ _ h
theorem EnB.c2 (h:EnB T w g e):w.cell? ⟨g,2,none⟩=some (.slice e.aA e.aL e.aC):=cell_of_row w g 2 _ _ _ h
theorem EnB.fr (h:EnB T w g e) (i:Nat):w.frozen? ⟨g,i,none⟩=false:=by
 unfold EnB at h
 simp [World.frozen?,h]
theorem EnB.below (h:EnB T w g e) (hb:Below w.heap.size w w'):EnB T w' g e:=(hb.block g h.lt).trans h
theorem EnB.alloc (h:EnB T w g e) (o:Obj):EnB T (w.alloc o) g e:=(Below.heap_alloc w o g h.lt).trans h
theorem EnB.new (T:TypeId) (w:World) (e:NV):EnB T (w.alloc (.cells #[.slice e.nA e.nL e.nC,.slice e.mA e.mL e.mC,.slice e.aA e.aL e.aC] T)) w.heap.size e:=heap_alloc_new w _
end
theorem barr_inj {s t:ByteArray} (h:s.data.toList=t.data.toList):s=t:=by
 cases s;cases t
 simp only at h
 rw [Array.toList_inj.1 h]
end Go.Proofs.YtcddbfdbhjkjgaaGreatDoor
namespace Go.Proofs.YtcddbfdbhjkjgaaGreatDoor
open Go.RowKit
theorem ne_beq {k m:Int} (h:k≠m):(k==m)=false:=by simpa using h
end Go.Proofs.YtcddbfdbhjkjgaaGreatDoor
namespace Go.Proofs.YtcddbfdbhjkjgaaGreatDoor
open Go.RowKit
theorem drewN_below6 (w:World) (m:Nat):Below w.heap.size w (w.drewN m):=⟨rfl,rfl,rfl,n_ _,fun _ _=>rfl⟩
end Go.Proofs.YtcddbfdbhjkjgaaGreatDoor
namespace Go.Proofs.YtcddbfdbhjkjgaaGreatDoor
open Go.RowKit
def CellsAt (w:World) (A:Option Addr) (news:List Value):Prop:=∀(j:Nat) (u:Value),news[j]?=some u→∃g o,A=some ⟨g,o,none⟩∧w.cell? ⟨g,o+j,none⟩=some u
def FullAt (w:World) (e:TypeId) (g:Nat) (olds:List Value):Prop:=w.heap[g]?=some (.cells olds.toArray e (0,0))
theorem FullAt.below {w w':World} {e:TypeId} {g:Nat} {olds:List Value} (h:FullAt w e g olds) (hb:Below w.heap.size w w'):FullAt w' e g olds:=(hb.block g (Array.getElem?_eq_some_iff.1 h).1).trans h
def StRow (w:World) (base:Nat) (v:Value) (xs:List ByteArray):Prop:=w.ownsRow base 9 1 v xs.length (xs.map .string)
def InRow (w:World) (base:Nat) (v:Value) (xs:List Int):Prop:=w.ownsRow base 3 1 v xs.length (xs.map (.int .i64))
theorem ownsRow_below {w w':World} {base:Nat} {e:TypeId} {s:Nat} {v:Value} {n:Nat} {xs:List Value} (h:w.ownsRow base e s v n xs) (hb:Below w.heap.size w w'):w'.ownsRow base e s v n xs:=by
 refine ⟨h.1,?_⟩
 rcases h.2 with h2|⟨g,cap,cur,a1,a2,a3,a4⟩
 ·exact .inl h2
 ·exact .inr ⟨g,cap,cur,a1,a2,(hb.block g (Array.getElem?_eq_some_iff.1 a3).1).trans a3,a4⟩
theorem StRow.below {w w':World} {base:Nat} {v:Value} {xs:List ByteArray} (h:StRow w base v xs) (hb:Below w.heap.size w w'):StRow w' base v xs:=ownsRow_below h hb
theorem InRow.below {w w':World} {base:Nat} {v:Value} {xs:List Int} (h:InRow w base v xs) (hb:Below w.heap.size w w'):InRow w' base v xs:=ownsRow_below h hb
theorem StrAt.cells {w:World} {A:Option Addr} {xs:List ByteArray} (h:StrAt w A xs):CellsAt w A (xs.map .string):=fun j u hu=>by
 rw [List.getElem?_map] at hu
 obtain ⟨s,hs,rfl⟩:=Option.map_eq_some_iff.1 hu
 obtain ⟨g,o,e,_,hc⟩:=h j s hs
 exact ⟨g,o,e,hc⟩
theorem IntAt.cells {w:World} {A:Option Addr} {xs:List Int} (h:IntAt w A xs):CellsAt w A (xs.map (.int .i64)):=fun j u hu=>by
 rw [List.getElem?_map] at hu
 obtain ⟨s,hs,rfl⟩:=Option.map_eq_some_iff.1 hu
 obtain ⟨g,o,e,_,hc⟩:=h j s hs
 exact ⟨g,o,e,hc⟩
end Go.Proofs.YtcddbfdbhjkjgaaGreatDoor
namespace Go.Proofs.YtcddbfdbhjkjgaaGreatDoor
open Go.RowKit
theorem take_eq_succ {xs ys:List ByteArray} {i:Nat} {x y:ByteArray} (h:xs.take i=ys.take i) (hx:xs[i]?=some x) (hy:ys[i]?=some y) (e:x=y):xs.take (i+1)=ys.take (i+1):=by
 rw [List.take_add_one,List.take_add_one,h,hx,hy,e]
theorem rsame6_any (w:World) (A B:Option Addr) (n c m d:Nat) (xs ys:List ByteArray) (hx:StrAt w A xs) (hy:StrAt w B ys) (hn:xs.length=n) (hm:ys.length=m) (hc:n≤c∧c≤maxLen) (hd:m≤d∧d≤maxLen) :
  Calls Tryz.prog 78 #[.slice A n c,.slice B m d] w fun e w'=>e=.returned (.bool (decide (xs=ys)))∧Below w.heap.size w w':=by
 have HX:=h_ hx
 have HY:=h_ hy
 have HN:=h_ hn
 have HM:=h_ hm
 have HC:Hid (n≤9223372036854775807):=by
  have h1:=hc.1
  have h2:=hc.2
  unfold maxLen at h2
  exact Nat.le_trans h1 (by omega)
 by_cases hnm:n=m
 ·subst hnm
  have q:((n:Int) != n)=false:=by simp [bne]
  obtain ⟨R,hR⟩:∃R,decide (xs=ys)=R:=⟨_,rfl⟩
  have HR:=h_ hR
  rw [hR]
  clear hx hy hn hm hc hd hR
  go_enter Tryz.func78,Tryz.ntmps78
  go_wp2_with fail
  go_loopw [5] (fun iv wr=>∃i:Nat,i≤n∧iv=.int .i64 (i:Int)∧Hid (xs.take i=ys.take i)∧Hid (Below w.heap.size w wr)) (fun iv _=>n-(intOf iv).toNat)
  case atStart=>exact ⟨0,Nat.zero_le _,rfl,by simp [Hid],b_ _ _⟩
  case round =>
   obtain ⟨i,hi,rfl,HT,HB⟩:=hrel
   by_cases him:i<n
   ·have HIM:=h_ him
    have him':(i:Int)<n:=by omega
    obtain ⟨x,hx⟩:∃x,xs[i]?=some x:=⟨_,List.getElem?_eq_getElem (by rw [HN.out];exact him)⟩
    obtain ⟨y,hy⟩:∃y,ys[i]?=some y:=⟨_,List.getElem?_eq_getElem (by rw [HM.out];exact him)⟩
    obtain ⟨go,o,rfl,hgo,x0⟩:=HX.out i x hx
    obtain ⟨gp,p,rfl,hgp,y0⟩:=HY.out i y hy
    have x1:=HB.out.cell (p:=⟨go,o+i,none⟩) hgo
    have y1:=HB.out.cell (p:=⟨gp,p+i,none⟩) hgp
    rw [x0] at x1
    rw [y0] at y1
    have HGX:=h_ hx
    have HGY:=h_ hy
    clear hx hy x0 y0 hgo hgp
    obtain ⟨b,hb⟩:∃b,(x.toList==y.toList)=b:=⟨_,rfl⟩
    cases b
    ·have hne:Hid (xs≠ys):=fun h=>by
      have h1:=HGX.out
      rw [h,HGY.out] at h1
      injection h1 with h1
      rw [h1] at hb
      simp at hb
     obtain rfl:R=false:=by rw [←HR.out];exact decide_eq_false hne.out
     have hb':(x.toList != y.toList)=true:=by simp only [bne,hb];rfl
     go_wp2_with fail
     go_quiet (fail)
     go_wp2_with fail
     go_ret
     exact ⟨rfl,HB.out.trans ((drewN_below6 wr _).mono HB.out.size)⟩
    ·have hxy:x=y:=by
      refine barr_inj ?_
      have:=eq_of_beq hb
      rw [Lib.toList_data,Lib.toList_data] at this
      exact this
     have HT2:=h_ (take_eq_succ HT.out HGX.out HGY.out hxy)
     have hb':(x.toList != y.toList)=false:=by simp only [bne,hb];rfl
     clear hxy
     go_wp2_with fail
     go_quiet (fail)
     go_wp2_with fail
     go_roundw
     case rel=>exact ⟨i+1,by have:=HIM.out;omega,by have h1:=HIM.out;have h2:=HC.out;rw [Go.IntWalk.wrap64_in _ ⟨by omega,by omega⟩];rfl,HT2,HB.out.trans ((drewN_below6 wr _).mono HB.out.size)⟩
     case measure=>have h1:=HIM.out;have h2:=HC.out;rw [Go.IntWalk.wrap64_in _ ⟨by omega,by omega⟩];simp [intOf];omega
   ·have him':¬(i:Int)<n:=by omega
    obtain rfl:R=true:=by
     rw [←HR.out]
     refine decide_eq_true ?_
     have:=HT.out
     rw [List.take_of_length_le (by rw [HN.out];omega),List.take_of_length_le (by rw [HM.out];omega)] at this
     exact this
    go_wp2_with fail
    go_ret
    exact ⟨rfl,HB.out⟩
 ·have q:((n:Int) != m)=true:=by simp only [bne,ne_beq (show (n:Int)≠m by omega)];rfl
  have hne:xs≠ys:=fun h=>hnm (by rw [←hn,←hm,h])
  rw [decide_eq_false hne]
  clear hne hx hy hn hm hc hd hnm
  go_enter Tryz.func78,Tryz.ntmps78
  go_wp2_with fail
  go_ret
  exact ⟨rfl,b_ _ _⟩
end Go.Proofs.YtcddbfdbhjkjgaaGreatDoor
namespace Go.Proofs.YtcddbfdbhjkjgaaGreatDoor
open Go.RowKit
theorem DvAt.opened {w:World} {e:TypeId} {k n:Nat} {cs:List DV} {x:Value} {F:List Nat} (h:DvAt w (.row e k n cs) x F) (hn:0<n):∃g c,x=.slice (some ⟨g,0,none⟩) n c∧n≤c∧c≤maxLen∧g<w.heap.size∧∀i d,cs[i]?=some d→∃v F',w.cell? ⟨g,i,none⟩=some v∧DvAt w d v F':=by
 unfold DvAt at h
 obtain ⟨xs,H,⟨h1,h2⟩,_,h3⟩:=h
 rcases h2 with ⟨_,h2⟩|⟨g,c,cur,hx,_,hg,hc1,hc2,hc3,hc4⟩
 ·omega
 ·refine ⟨g,c,hx,hc1,hc2,(Array.getElem?_eq_some_iff.1 hg).1,fun i d hi=>?_⟩
  obtain ⟨v,F',h4,h5⟩:=h3.get hi
  refine ⟨v,F',?_,h5⟩
  rw [cell_of_row w g i _ _ _ hg]
  rw [←hc4,List.getElem?_take] at h4
  split at h4
  ·simpa using h4
  ·cases h4
theorem flat_get {α:Type} {f:α→List DV} {k:Nat} (hk:∀a,(f a).length=k):∀(l:List α) (i:Nat) (a:α),l[i]?=some a→∀j,j<k→(l.flatMap f)[i*k+j]?=(f a)[j]?
 |[],i,a,h,_,_=>by simp at h
 |x::l,0,a,h,j,hj=>by
  obtain rfl:x=a:=by simpa using h
  rw [List.flatMap_cons,Nat.zero_mul,Nat.zero_add,List.getElem?_append_left (by rw [hk];exact hj)]
 |x::l,i+1,a,h,j,hj=>by
  rw [List.flatMap_cons,List.getElem?_append_right (by rw [hk,Nat.succ_mul];omega),hk,Nat.succ_mul,show i*k+k+j-k=i*k+j from by omega]
  exact flat_get hk l i a (by simpa using h) j hj
theorem sub_gv {w:World} {o:Bool} {k n op p:Int} {s:List UInt8} {l:List GX} {x:Value} {F:List Nat} (h:DvAt w (.sub o l) x F):∃v:EV,x=.slice v.A v.len v.cap∧v.kind=k∧v.num=n∧txV s=.string v.name∧v.op=op∧v.p=p∧GV w 0 w.heap.size (.mk k n s op l p) v:=by
 unfold DvAt at h
 obtain ⟨lo,hi,⟨A,c,rfl,h1,h2,h3,h4,h5⟩,_⟩:=h
 refine ⟨⟨k,n,⟨s.toArray⟩,op,A,l.length,c,p⟩,rfl,rfl,rfl,rfl,rfl,rfl,?_⟩
 refine ⟨rfl,rfl,rfl,rfl,rfl,rfl,h1,h2,?_⟩
 cases o with
 |false=>exact GRow.mono (Nat.zero_le _) h4 h5
 |true =>
  rcases h5 with h5|⟨g,cs,e,a,b,d,h⟩
  ·rw [h5];unfold GRow;trivial
  ·rw [e]
   exact GRow.mono (Nat.zero_le _) h4 (GWs.grow a b (n_ _) (Nat.le_of_lt b) h)
theorem act_at {w:World} {o:Bool} {l:List SyAct} {v:Value} {F:List Nat} (h:DvAt w (dvActs o l) v F) {i:Nat} {a:SyAct} (hi:l[i]?=some a) :
  ∃g c ev,v=.slice (some ⟨g,0,none⟩) l.length c∧l.length≤c∧c≤maxLen∧g<w.heap.size∧w.cell? ⟨g,i*9,none⟩=some (.int .i64 a.kind)∧w.cell? ⟨g,i*9+1,none⟩=some (txV a.name)∧EvAt w g (i*9+2) ev∧GV w 0 w.heap.size (gxO a.value) ev∧w.cell? ⟨g,i*9+8,none⟩=some (.int .i64 a.at_):=by
 have hn:0<l.length:=by have:=(List.getElem?_eq_some_iff.1 hi).1;omega
 unfold dvActs at h
 obtain ⟨g,c,hv,h1,h2,h3,h4⟩:=h.opened hn
 have hg:∀j d,j<9→(dvAct o a)[j]?=some d→∃v F',w.cell? ⟨g,i*9+j,none⟩=some v∧DvAt w d v F':=fun j d hj hd=>h4 _ d (by rw [flat_get (k:=9) (fun _=>rfl) l i a hi j hj];exact hd)
 have hp:∀j u,j<9→(dvAct o a)[j]?=some (.v u)→w.cell? ⟨g,i*9+j,none⟩=some u:=fun j u hj hd=>by
  obtain ⟨v,F',h5,h6⟩:=hg j _ hj hd
  rw [h5,h6.v]
 obtain ⟨x,F',h5,h6⟩:=hg 6 (.sub o (gxO a.value).subs) (by decide) rfl
 obtain ⟨ev,rfl,e1,e2,e3,e4,e5,e6⟩:=sub_gv (k:=(gxO a.value).kind) (n:=(gxO a.value).num) (s:=(gxO a.value).name) (op:=(gxO a.value).op) (p:=(gxO a.value).p) h6
 have p2:=hp 2 _ (by decide) rfl
 have p3:=hp 3 _ (by decide) rfl
 have p4:=hp 4 _ (by decide) rfl
 have p5:=hp 5 _ (by decide) rfl
 have p7:=hp 7 _ (by decide) rfl
 rw [←e1] at p2
 rw [←e2] at p3
 rw [e3] at p4
 rw [←e4] at p5
 rw [←e5] at p7
 refine ⟨g,c,ev,hv,h1,h2,h3,hp 0 _ (by decide) rfl,hp 1 _ (by decide) rfl,⟨p2,p3,p4,p5,h5,p7⟩,?_,hp 8 _ (by decide) rfl⟩
 cases hx:gxO a.value with
 |mk k n s o l p=>rw [hx] at e6;exact e6
def aG (pl:Bool) (a b:SyAct):Prop:=a.kind=b.kind∧a.name=b.name∧sm pl (gxO a.value) (gxO b.value)=true∧(pl=true→a.at_=b.at_)
def asG (pl:Bool) (l l':List SyAct):Prop:=l.length=l'.length∧∀(i:Nat) (a b:SyAct),l[i]?=some a→l'[i]?=some b→aG pl a b
theorem acts_slice {w:World} {o:Bool} {l:List SyAct} {v:Value} {F:List Nat} (h:DvAt w (dvActs o l) v F):∃A c,v=.slice A l.length c∧l.length≤c∧c≤maxLen:=by
 unfold dvActs at h
 exact h.slice
theorem sameacts_any (w:World) (pl o o':Bool) (l l':List SyAct) (v v':Value) (F F':List Nat) (h:DvAt w (dvActs o l) v F) (h':DvAt w (dvActs o' l') v' F') (hs:asG pl l l') :
  Calls Tryz.prog 49 #[v,v',.bool pl] w fun e w'=>e=.returned (.bool true)∧Below w.heap.size w w':=by
 obtain ⟨A,c,rfl,hc1,hc2⟩:=acts_slice h
 obtain ⟨A',c',rfl,hc1',hc2'⟩:=acts_slice h'
 have H:=h_ h
 have H':=h_ h'
 have HA:=h_ hs.2
 obtain ⟨n,hn⟩:∃n,l.length=n:=⟨_,rfl⟩
 have hn':l'.length=n:=by rw [←hs.1];exact hn
 have HN:=h_ hn
 have HN':=h_ hn'
 have HMX:Hid (n≤9223372036854775807):=by show n≤_;have:maxLen≤9223372036854775807:=by decide
                                          omega
 rw [hn,hn']
 clear h h' hs hc1 hc2 hc1' hc2' hn hn'
 have q6:((n:Int) != n)=false:=by simp [bne]
 go_enter Tryz.func49,Tryz.ntmps49
 go_wp2_with fail
 clear q6
 go_loopw [7] (fun iv wr=>∃i:Nat,i≤n∧iv=.int .i64 (i:Int)∧Hid (Below w.heap.size w wr)) (fun iv _=>n-(intOf iv).toNat)
 case atStart=>exact ⟨0,Nat.zero_le _,rfl,(b_ _ w)⟩
 case round =>
  obtain ⟨i,hi,rfl,HBW⟩:=hrel
  by_cases him:i<n
  ·have HIM:=h_ him
   have him':(i:Int)<n:=by omega
   obtain ⟨x,hx⟩:∃x,l[i]?=some x:=⟨_,List.getElem?_eq_getElem (by rw [HN.out];exact him)⟩
   obtain ⟨y,hy⟩:∃y,l'[i]?=some y:=⟨_,List.getElem?_eq_getElem (by rw [HN'.out];exact him)⟩
   obtain ⟨a1,a2,a3,a4⟩:=HA.out i x y hx hy
   obtain ⟨g,c0,ev,hv,_,_,hg,x0,x1,hev,hgv,x8⟩:=act_at H.out hx
   obtain ⟨g',c0',ev',hv',_,_,hg',y0,y1,hev',hgv',y8⟩:=act_at H'.out hy
   obtain rfl:A=some ⟨g,0,none⟩:=by injection hv
   obtain rfl:A'=some ⟨g',0,none⟩:=by injection hv'
   have kb:∀{p:Addr} {u:Value},w.cell? p=some u→wr.cell? p=some u:=fun hc=>by rw [World.cell?_of_block (HBW.out.block _ (World.block_lt_of_cell? w _ hc))];exact hc
   obtain ⟨X,hX⟩:=str_of x.name
   obtain ⟨Y,hY⟩:=str_of y.name
   rw [hX] at x1
   rw [hY] at y1
   have X0:=h_ (kb x0)
   have X1:=h_ (kb x1)
   have X8:=h_ (kb x8)
   have Y0:=h_ (kb y0)
   have Y1:=h_ (kb y1)
   have Y8:=h_ (kb y8)
   obtain ⟨x2,x3,x4,x5,x6,x7⟩:=hev.same (HBW.out.block g hg)
   obtain ⟨y2,y3,y4,y5,y6,y7⟩:=hev'.same (HBW.out.block g' hg')
   have HC:=h_ (fun (W:World) (hb:Below w.heap.size w W)=>esame_any W (gxO x.value) (gxO y.value) ev ev' pl ((GV.below hgv hb (n_ _)).mono (n_ _) hb.size) ((GV.below hgv' hb (n_ _)).mono (n_ _) hb.size))
   rw [a3] at HC
   have HXY:Hid (X=Y):=by
    show X=Y
    have:txV x.name=txV y.name:=by rw [a2]
    rw [hX,hY] at this
    injection this
   have HK:=h_ a1
   have HT:=h_ a4
   obtain ⟨k2,num2,S2,op2,A2,len2,cap2,p2⟩:=ev
   obtain ⟨k3,num3,S3,op3,A3,len3,cap3,p3⟩:=ev'
   simp only [EV.val] at HC
   simp only at x2 x3 x4 x5 x6 x7 y2 y3 y4 y5 y6 y7
   clear hev hev' hgv hgv' hv hv' kb x0 x1 x8 y0 y1 y8 hX hY a1 a2 a3 a4 hx hy hg hg'
   go_wp2_with fail
   go_still_tail 11,(by kernel_rfl)
   change wpList _ _ _ _ _ (World.drew wr)
   obtain ⟨W1,hW1⟩:∃W1,W1=wr.drew:=⟨_,rfl⟩
   have HB1:Hid (Below w.heap.size w W1):=by rw [hW1];exact HBW.out.trans (b_ _ wr).drew
   have kb:∀{p:Addr} {u:Value},wr.cell? p=some u→W1.cell? p=some u:=fun hc=>by rw [hW1];exact hc
   have X0':=h_ (kb X0.out)
   have X1':=h_ (kb X1.out)
   have X8':=h_ (kb X8.out)
   have Y0':=h_ (kb Y0.out)
   have Y1':=h_ (kb Y1.out)
   have Y8':=h_ (kb Y8.out)
   have HCC:=h_ (HC.out W1 HB1.out)
   rw [←hW1]
   clear kb hW1 HC HBW x2 x3 x4 x5 x6 x7 y2 y3 y4 y5 y6 y7 X0 X1 X8 Y0 Y1 Y8
   go_wp2_with fail
   refine HCC.out.mono ?_
   rintro e w2 ⟨rfl,hb⟩
   have HB2:=h_ (HB1.out.trans (hb.mono HB1.out.size))
   have kb:∀{p:Addr} {u:Value},W1.cell? p=some u→w2.cell? p=some u:=fun hc=>by rw [World.cell?_of_block (hb.block _ (World.block_lt_of_cell? W1 _ hc))];exact hc
   have x0:=kb X0'.out
   have x1:=kb X1'.out
   have x8:=kb X8'.out
   have y0:=kb Y0'.out
   have y1:=kb Y1'.out
   have y8:=kb Y8'.out
   obtain rfl:=HXY.out
   have q0:(x.kind != y.kind)=false:=by simp [bne,HK.out]
   clear kb hb HCC HB1 X0' X1' X8' Y0' Y1' Y8'
   cases pl
   ·go_wp2_with fail
    go_quiet (fail)
    clear x0 x1 x8 y0 y1 y8 q0
    go_wp2_with fail
    go_roundw
    case rel=>exact ⟨i+1,by have:=HIM.out;omega,by have h1:=HIM.out;have h2:=HMX.out;rw [Go.IntWalk.wrap64_in _ ⟨by omega,by omega⟩];rfl,HB2.out.trans ((drewN_below w2 _).mono HB2.out.size)⟩
    case measure=>have h1:=HIM.out;have h2:=HMX.out;rw [Go.IntWalk.wrap64_in _ ⟨by omega,by omega⟩];simp [intOf];omega
   ·have q8:(x.at_ != y.at_)=false:=by simp [bne,HT.out rfl]
    go_wp2_with fail
    go_quiet (fail)
    clear x0 x1 x8 y0 y1 y8 q0 q8
    go_wp2_with fail
    go_roundw
    case rel=>exact ⟨i+1,by have:=HIM.out;omega,by have h1:=HIM.out;have h2:=HMX.out;rw [Go.IntWalk.wrap64_in _ ⟨by omega,by omega⟩];rfl,HB2.out.trans ((drewN_below w2 _).mono HB2.out.size)⟩
    case measure=>have h1:=HIM.out;have h2:=HMX.out;rw [Go.IntWalk.wrap64_in _ ⟨by omega,by omega⟩];simp [intOf];omega
  ·have him':¬(i:Int)<n:=by omega
   go_wp2_with fail
   go_ret
   exact ⟨rfl,HBW.out⟩
end Go.Proofs.YtcddbfdbhjkjgaaGreatDoor
namespace Go.Proofs.YtcddbfdbhjkjgaaGreatDoor
open Go.RowKit
theorem DvsAt.uncons {w:World} {d:DV} {ds:List DV} {xs:List Value} {F:List Nat} (h:DvsAt w (d::ds) xs F):∃x ys F1 F2,xs=x::ys∧DvAt w d x F1∧DvsAt w ds ys F2:=by
 unfold DvsAt at h
 obtain ⟨x,ys,F1,F2,h1,_,h2,h3⟩:=h
 exact ⟨x,ys,F1,F2,h1,h2,h3⟩
theorem strs_at {w:World} {l:List (List UInt8)} {v:Value} {F:List Nat} (h:DvAt w (dvStrs l) v F):∃A c,v=.slice A l.length c∧l.length≤c∧c≤maxLen∧StrAt w A (l.map fun s=>(⟨s.toArray⟩:ByteArray)):=by
 unfold dvStrs at h
 obtain ⟨A,c,hv,h1,h2⟩:=h.slice
 refine ⟨A,c,hv,h1,h2,fun i s hi=>?_⟩
 rw [List.getElem?_map] at hi
 obtain ⟨t,ht,rfl⟩:=Option.map_eq_some_iff.1 hi
 have hn:0<l.length:=by have:=(List.getElem?_eq_some_iff.1 ht).1;omega
 obtain ⟨g,c',hv',_,_,h3,h4⟩:=h.opened hn
 rw [hv] at hv'
 obtain rfl:A=some ⟨g,0,none⟩:=by injection hv'
 obtain ⟨u,F',h5,h6⟩:=h4 i (.v (txV t)) (by rw [List.getElem?_map,ht];rfl)
 exact ⟨g,0,rfl,h3,by rw [Nat.zero_add,h5,h6.v];rfl⟩
theorem move_vals {w:World} {o:Bool} {m:SyMove} {xs:List Value} {F:List Nat} (h:DvsAt w (dvMove o m) xs F):∃(ev:EV) (va vt:Value) (Fa Ft:List Nat),xs=[.int .i64 m.kind,txV m.event,.int .i64 m.wait,.bool m.guarded,.int .i64 ev.kind,.int .i64 ev.num,.string ev.name,.int .i64 ev.op,.slice ev.A ev.len ev.cap,.int .i64 ev.p,va,vt,.int .i64 m.at_] ∧
  GV w 0 w.heap.size (gxO m.guard) ev∧DvAt w (dvActs o m.acts) va Fa∧DvAt w (dvStrs m.targets) vt Ft:=by
 unfold dvMove dvEx at h
 simp only [List.cons_append,List.nil_append] at h
 obtain ⟨x0,ys,_,_,rfl,d0,h⟩:=h.uncons
 obtain ⟨x1,ys,_,_,rfl,d1,h⟩:=h.uncons
 obtain ⟨x2,ys,_,_,rfl,d2,h⟩:=h.uncons
 obtain ⟨x3,ys,_,_,rfl,d3,h⟩:=h.uncons
 obtain ⟨x4,ys,_,_,rfl,d4,h⟩:=h.uncons
 obtain ⟨x5,ys,_,_,rfl,d5,h⟩:=h.uncons
 obtain ⟨x6,ys,_,_,rfl,d6,h⟩:=h.uncons
 obtain ⟨x7,ys,_,_,rfl,d7,h⟩:=h.uncons
 obtain ⟨x8,ys,_,_,rfl,d8,h⟩:=h.uncons
 obtain ⟨x9,ys,_,_,rfl,d9,h⟩:=h.uncons
 obtain ⟨xa,ys,Fa,_,rfl,da,h⟩:=h.uncons
 obtain ⟨xb,ys,Fb,_,rfl,db,h⟩:=h.uncons
 obtain ⟨xc,ys,_,_,rfl,dc,h⟩:=h.uncons
 unfold DvsAt at h
 obtain ⟨rfl,_⟩:=h
 obtain ⟨ev,rfl,e1,e2,e3,e4,e5,e6⟩:=sub_gv (k:=(gxO m.guard).kind) (n:=(gxO m.guard).num) (s:=(gxO m.guard).name) (op:=(gxO m.guard).op) (p:=(gxO m.guard).p) d8
 refine ⟨ev,xa,xb,Fa,Fb,?_,?_,da,db⟩
 ·rw [d0.v,d1.v,d2.v,d3.v,d4.v,d5.v,d6.v,d7.v,d9.v,dc.v,e1,e2,e3,e4,e5]
 ·cases hx:gxO m.guard with
  |mk k n s o l p=>rw [hx] at e6;exact e6
def mG (pl:Bool) (a b:SyMove):Prop:=a.kind=b.kind∧a.event=b.event∧a.wait=b.wait∧a.guarded=b.guarded∧sm pl (gxO a.guard) (gxO b.guard)=true∧asG pl a.acts b.acts∧a.targets=b.targets∧(pl=true→a.at_=b.at_)
theorem samemove_any (w:World) (pl o o':Bool) (m q:SyMove) (xs ys:List Value) (F F':List Nat) (h:DvsAt w (dvMove o m) xs F) (h':DvsAt w (dvMove o' q) ys F') (hs:mG pl m q) :
  Calls Tryz.prog 50 #[.agg xs.toArray,.agg ys.toArray,.bool pl] w fun e w'=>e=.returned (.bool true)∧Below w.heap.size w w':=by
 obtain ⟨me,va,vt,Fa,Ft,rfl,mg,ma,mt⟩:=move_vals h
 obtain ⟨qe,ua,ut,Ga,Gt,rfl,qg,qa,qt⟩:=move_vals h'
 obtain ⟨mA,mc,rfl,_⟩:=acts_slice ma
 obtain ⟨qA,qc,rfl,_⟩:=acts_slice qa
 obtain ⟨mT,md,rfl,mt1,mt2,mt3⟩:=strs_at mt
 obtain ⟨qT,qd,rfl,qt1,qt2,qt3⟩:=strs_at qt
 obtain ⟨X,hX⟩:=str_of m.event
 obtain ⟨Y,hY⟩:=str_of q.event
 obtain ⟨s1,s2,s3,s4,s5,s6,s7,s8⟩:=hs
 have hXY:X=Y:=by
  have:txV m.event=txV q.event:=by rw [s2]
  rw [hX,hY] at this
  injection this
 subst hXY
 rw [hX,hY]
 obtain ⟨g1,hg1⟩:∃g,g=w.heap.size:=⟨_,rfl⟩
 obtain ⟨g2,hg2⟩:∃g,g=w.heap.size+1:=⟨_,rfl⟩
 obtain ⟨Wa,hWa⟩:∃W,W=w.alloc (.cells #[.int .i64 m.kind,.string X,.int .i64 m.wait,.bool m.guarded,.int .i64 me.kind,.int .i64 me.num,.string me.name,.int .i64 me.op,.slice me.A me.len me.cap,.int .i64 me.p,.slice mA m.acts.length mc,.slice mT m.targets.length md,.int .i64 m.at_] 56):=⟨_,rfl⟩
 obtain ⟨W0,hW0⟩:∃W,W=Wa.alloc (.cells #[.int .i64 q.kind,.string X,.int .i64 q.wait,.bool q.guarded,.int .i64 qe.kind,.int .i64 qe.num,.string qe.name,.int .i64 qe.op,.slice qe.A qe.len qe.cap,.int .i64 qe.p,.slice qA q.acts.length qc,.slice qT q.targets.length qd,.int .i64 q.at_] 56):=⟨_,rfl⟩
 have hsa:Wa.heap.size=w.heap.size+1:=by rw [hWa];simp
 have HX:Hid (CB W0 g1 56 [.int .i64 m.kind,.string X,.int .i64 m.wait,.bool m.guarded,.int .i64 me.kind,.int .i64 me.num,.string me.name,.int .i64 me.op,.slice me.A me.len me.cap,.int .i64 me.p,.slice mA m.acts.length mc,.slice mT m.targets.length md,.int .i64 m.at_]):=by rw [hW0,hWa,hg1];exact (CB.new w _ [.int .i64 m.kind,.string X,.int .i64 m.wait,.bool m.guarded,.int .i64 me.kind,.int .i64 me.num,.string me.name,.int .i64 me.op,.slice me.A me.len me.cap,.int .i64 me.p,.slice mA m.acts.length mc,.slice mT m.targets.length md,.int .i64 m.at_]).alloc _
 have HY:Hid (CB W0 g2 56 [.int .i64 q.kind,.string X,.int .i64 q.wait,.bool q.guarded,.int .i64 qe.kind,.int .i64 qe.num,.string qe.name,.int .i64 qe.op,.slice qe.A qe.len qe.cap,.int .i64 qe.p,.slice qA q.acts.length qc,.slice qT q.targets.length qd,.int .i64 q.at_]):=by
  have:=CB.new Wa 56 [.int .i64 q.kind,.string X,.int .i64 q.wait,.bool q.guarded,.int .i64 qe.kind,.int .i64 qe.num,.string qe.name,.int .i64 qe.op,.slice qe.A qe.len qe.cap,.int .i64 qe.p,.slice qA q.acts.length qc,.slice qT q.targets.length qd,.int .i64 q.at_]
  rw [hsa,←hg2] at this
  rw [hW0]
  exact this
 have HB:Hid (Below w.heap.size w W0):=by rw [hW0,hWa];exact ((b_ _ w).alloc (n_ _) _).alloc (by simp) _
 have HC1:=h_ (esame_any W0 (gxO m.guard) (gxO q.guard) me qe pl ((GV.below mg HB.out (n_ _)).mono (n_ _) HB.out.size) ((GV.below qg HB.out (n_ _)).mono (n_ _) HB.out.size))
 rw [s5] at HC1
 simp only [EV.val] at HC1
 have HC2:=h_ (fun (W:World) (hb:Below w.heap.size w W)=>sameacts_any W pl o o' m.acts q.acts _ _ _ _ (ma.below hb) (qa.below hb) s6)
 have HC3:=h_ (fun (W:World) (hb:Below w.heap.size w W)=>rsame6_any W mT qT m.targets.length md q.targets.length qd _ _ (mt3.below hb) (qt3.below hb) (by simp) (by simp) ⟨mt1,mt2⟩ ⟨qt1,qt2⟩)
 have hdec:decide ((m.targets.map fun s=>(⟨s.toArray⟩:ByteArray))=q.targets.map fun s=>(⟨s.toArray⟩:ByteArray))=true:=by rw [s7];exact decide_eq_true rfl
 simp only [hdec] at HC3
 have q1:=HX.out.c 4 rfl
 have q2:=HX.out.c 5 rfl
 have q3:=HX.out.c 6 rfl
 have q4:=HX.out.c 7 rfl
 have q5:=HX.out.c 8 rfl
 have q6:=HX.out.c 9 rfl
 have r1:=HY.out.c 4 rfl
 have r2:=HY.out.c 5 rfl
 have r3:=HY.out.c 6 rfl
 have r4:=HY.out.c 7 rfl
 have r5:=HY.out.c 8 rfl
 have r6:=HY.out.c 9 rfl
 have HS:=h_ (And.intro s1 (And.intro s3 (And.intro s4 s8)))
 have HTL:Hid (m.targets.length=q.targets.length):=by show _=_;rw [s7]
 clear h h' mg qg ma qa mt qt mt1 mt2 mt3 qt1 qt2 qt3 s1 s2 s3 s4 s5 s6 s7 s8 hX hY hsa
 go_enter Tryz.func50,Tryz.ntmps50
 go_upto_region 1 with fail
 rw [←hWa,←hW0,←hg2,←hg1]
 clear hWa hW0 hg2 hg1
 go_wp2_with fail
 refine HC1.out.mono ?_
 rintro e w1 ⟨rfl,hb⟩
 have HX1:=h_ (HX.out.below hb)
 have HY1:=h_ (HY.out.below hb)
 have HB1:=h_ (HB.out.trans (hb.mono HB.out.size))
 have HCA:=h_ (HC2.out w1 HB1.out)
 have x1:=HX1.out.c 10 rfl
 have y1:=HY1.out.c 10 rfl
 clear hb HC1 HX HY HB HC2 q1 q2 q3 q4 q5 q6 r1 r2 r3 r4 r5 r6
 go_wp2_with fail
 refine HCA.out.mono ?_
 rintro e w2 ⟨rfl,hb⟩
 have HX2:=h_ (HX1.out.below hb)
 have HY2:=h_ (HY1.out.below hb)
 have HB2:=h_ (HB1.out.trans (hb.mono HB1.out.size))
 have HCB:=h_ (HC3.out w2 HB2.out)
 have x2:=HX2.out.c 11 rfl
 have y2:=HY2.out.c 11 rfl
 clear hb HCA HX1 HY1 HB1 HC3 x1 y1
 go_wp2_with fail
 refine HCB.out.mono ?_
 rintro e w3 ⟨rfl,hb⟩
 have HX3:=h_ (HX2.out.below hb)
 have HY3:=h_ (HY2.out.below hb)
 have HB3:=h_ (HB2.out.trans (hb.mono HB2.out.size))
 obtain ⟨s1,s3,s4,s8⟩:=HS.out
 have x0:=HX3.out.c 0 rfl
 have x1:=HX3.out.c 1 rfl
 have x2:=HX3.out.c 2 rfl
 have x3:=HX3.out.c 3 rfl
 have x12:=HX3.out.c 12 rfl
 have y0:=HY3.out.c 0 rfl
 have y1:=HY3.out.c 1 rfl
 have y2:=HY3.out.c 2 rfl
 have y3:=HY3.out.c 3 rfl
 have y12:=HY3.out.c 12 rfl
 have t1:(m.kind==q.kind)=true:=by simp [s1]
 have t2:(m.wait==q.wait)=true:=by simp [s3]
 have t3:(m.guarded==q.guarded)=true:=by simp [s4]
 clear hb HCB HX2 HY2 HB2 s1 s3 s4
 cases pl
 ·clear s8 x12 y12
  go_wp2_with fail
  go_ret
  exact ⟨rfl,HB3.out⟩
 ·have t4:(m.at_==q.at_)=true:=by simp [s8 rfl]
  clear s8
  go_wp2_with fail
  go_ret
  exact ⟨rfl,HB3.out⟩
end Go.Proofs.YtcddbfdbhjkjgaaGreatDoor
namespace Go.Proofs.YtcddbfdbhjkjgaaGreatDoor
open Go.RowKit
theorem aG_same (pl:Bool) (a:SyAct):aG pl a a:=⟨rfl,rfl,by cases pl;exact (sm_false _ _).2 rfl;exact (sm_true _ _).2 rfl,fun _=>rfl⟩
theorem asG_same (pl:Bool) (l:List SyAct):asG pl l l:=⟨rfl,fun i a b ha hb=>by rw [ha] at hb;obtain rfl:=Option.some.inj hb;exact aG_same pl a⟩
theorem mG_same (pl:Bool) (a:SyMove):mG pl a a:=⟨rfl,rfl,rfl,rfl,by cases pl;exact (sm_false _ _).2 rfl;exact (sm_true _ _).2 rfl,asG_same pl _,rfl,fun _=>rfl⟩
def msG (pl:Bool) (l l':List SyMove):Prop:=l.length=l'.length∧∀(i:Nat) (a b:SyMove),l[i]?=some a→l'[i]?=some b→mG pl a b
theorem msG_same (pl:Bool) (l:List SyMove):msG pl l l:=⟨rfl,fun i a b ha hb=>by rw [ha] at hb;obtain rfl:=Option.some.inj hb;exact mG_same pl a⟩
mutual
def nG (pl:Bool):SyNode→SyNode→Prop
 |.mk k n i d e l m ks p,.mk k' n' i' d' e' l' m' ks' p'=>k=k'∧n=n'∧i=i'∧d=d'∧asG pl e e'∧asG pl l l'∧msG pl m m'∧nsG pl ks ks'∧(pl=true→p=p')
def nsG (pl:Bool):List SyNode→List SyNode→Prop
 |[],[]=>True
 |x::l,y::l'=>nG pl x y∧nsG pl l l'
 |_,_=>False
end
mutual
theorem nG_same (pl:Bool):∀x:SyNode,nG pl x x
 |.mk k n i d e l m ks p=>by
  unfold nG
  exact ⟨rfl,rfl,rfl,rfl,asG_same pl _,asG_same pl _,msG_same pl _,nsG_same pl ks,fun _=>rfl⟩
theorem nsG_same (pl:Bool):∀l:List SyNode,nsG pl l l
 |[]=>by unfold nsG;trivial
 |x::l=>by unfold nsG;exact ⟨nG_same pl x,nsG_same pl l⟩
end
theorem nsG_len {pl:Bool}:∀{l l':List SyNode},nsG pl l l'→l.length=l'.length
 |[],[],_=>rfl
 |[],_::_,h=>by unfold nsG at h;exact h.elim
 |_::_,[],h=>by unfold nsG at h;exact h.elim
 |_::l,_::l',h=>by unfold nsG at h;simp [nsG_len h.2]
theorem nsG_get {pl:Bool}:∀{l l':List SyNode},nsG pl l l'→∀(i:Nat) (a b:SyNode),l[i]?=some a→l'[i]?=some b→nG pl a b
 |[],[],_,_,_,_,ha,_=>by simp at ha
 |[],_::_,h,_,_,_,_,_=>by unfold nsG at h;exact h.elim
 |_::_,[],h,_,_,_,_,_=>by unfold nsG at h;exact h.elim
 |x::l,y::l',h,0,a,b,ha,hb=>by
  unfold nsG at h
  obtain rfl:x=a:=by simpa using ha
  obtain rfl:y=b:=by simpa using hb
  exact h.1
 |x::l,y::l',h,i+1,a,b,ha,hb=>by
  unfold nsG at h
  exact nsG_get h.2 i a b (by simpa using ha) (by simpa using hb)
theorem dvNodes_flat (o:Bool):∀l:List SyNode,dvNodes o l=l.flatMap (dvNode o)
 |[]=>by rw [dvNodes];rfl
 |x::l=>by rw [dvNodes,dvNodes_flat o l];rfl
end Go.Proofs.YtcddbfdbhjkjgaaGreatDoor
namespace Go.Proofs.YtcddbfdbhjkjgaaGreatDoor
open Go.RowKit
theorem DvsAt.elem {α:Type} {f:α→List DV} {k:Nat} (hk:∀a,(f a).length=k) {w:World}:∀{l:List α} {xs:List Value} {F:List Nat},DvsAt w (l.flatMap f) xs F→∀{i:Nat} {a:α},l[i]?=some a→∃ys F',DvsAt w (f a) ys F'∧ys.length=k∧∀j u,ys[j]?=some u→xs[i*k+j]?=some u
 |[],_,_,_,i,a,h=>by simp at h
 |x::l,xs,F,hd,i,a,h=>by
  rw [List.flatMap_cons] at hd
  obtain ⟨xs1,xs2,F1,F2,rfl,_,h1,h2⟩:=hd.cut
  have hl:xs1.length=k:=by rw [h1.len];exact hk x
  match i,h with
  |0,h =>
   obtain rfl:x=a:=by simpa using h
   refine ⟨xs1,F1,h1,hl,fun j u hj=>?_⟩
   rw [Nat.zero_mul,Nat.zero_add,List.getElem?_append_left (List.getElem?_eq_some_iff.1 hj).1]
   exact hj
  |i+1,h =>
   obtain ⟨ys,F',h3,h4,h5⟩:=DvsAt.elem hk h2 (i:=i) (a:=a) (by simpa using h)
   refine ⟨ys,F',h3,h4,fun j u hj=>?_⟩
   rw [List.getElem?_append_right (by rw [hl,Nat.succ_mul];omega),hl,Nat.succ_mul,show i*k+k+j-k=i*k+j from by omega]
   exact h5 j u hj
theorem row_elem {α:Type} {f:α→List DV} {k:Nat} (hk:∀a,(f a).length=k) {w:World} {e:TypeId} {l:List α} {x:Value} {F:List Nat} (h:DvAt w (.row e k l.length (l.flatMap f)) x F) {i:Nat} {a:α} (hi:l[i]?=some a) :
  ∃g c ys F',x=.slice (some ⟨g,0,none⟩) l.length c∧l.length≤c∧c≤maxLen∧g<w.heap.size∧DvsAt w (f a) ys F'∧ys.length=k∧∀j u,ys[j]?=some u→w.cell? ⟨g,i*k+j,none⟩=some u:=by
 have hn:0<l.length:=by have:=(List.getElem?_eq_some_iff.1 hi).1;omega
 unfold DvAt at h
 obtain ⟨xs,H,⟨h1,h2⟩,_,h3⟩:=h
 rcases h2 with ⟨_,h2⟩|⟨g,c,cur,hx,_,hg,hc1,hc2,hc3,hc4⟩
 ·omega
 ·obtain ⟨ys,F',h4,h5,h6⟩:=h3.elem hk hi
  refine ⟨g,c,ys,F',hx,hc1,hc2,(Array.getElem?_eq_some_iff.1 hg).1,h4,h5,fun j u hj=>?_⟩
  have h7:=h6 j u hj
  rw [cell_of_row w g _ _ _ _ hg]
  rw [←hc4,List.getElem?_take] at h7
  split at h7
  ·simpa using h7
  ·cases h7
theorem node_vals {w:World} {o:Bool} {k p:Int} {nm ini dft:List UInt8} {en le:List SyAct} {mo:List SyMove} {ks:List SyNode} {xs:List Value} {F:List Nat} (h:DvsAt w (dvNode o (.mk k nm ini dft en le mo ks p)) xs F) :
  ∃(A1 A2 A3 A4:Option Addr) (c1 c2 c3 c4:Nat) (F1 F2 F3 F4:List Nat),xs=[.int .i64 k,txV nm,txV ini,txV dft,.slice A1 en.length c1,.slice A2 le.length c2,.slice A3 mo.length c3,.slice A4 ks.length c4,.int .i64 p] ∧
   DvAt w (dvActs o en) (.slice A1 en.length c1) F1∧DvAt w (dvActs o le) (.slice A2 le.length c2) F2∧DvAt w (dvMoves o mo) (.slice A3 mo.length c3) F3∧DvAt w (dvKids o ks) (.slice A4 ks.length c4) F4:=by
 rw [dvNode_mk] at h
 obtain ⟨x0,ys,_,_,rfl,d0,h⟩:=h.uncons
 obtain ⟨x1,ys,_,_,rfl,d1,h⟩:=h.uncons
 obtain ⟨x2,ys,_,_,rfl,d2,h⟩:=h.uncons
 obtain ⟨x3,ys,_,_,rfl,d3,h⟩:=h.uncons
 obtain ⟨x4,ys,F1,_,rfl,d4,h⟩:=h.uncons
 obtain ⟨x5,ys,F2,_,rfl,d5,h⟩:=h.uncons
 obtain ⟨x6,ys,F3,_,rfl,d6,h⟩:=h.uncons
 obtain ⟨x7,ys,F4,_,rfl,d7,h⟩:=h.uncons
 obtain ⟨x8,ys,_,_,rfl,d8,h⟩:=h.uncons
 unfold DvsAt at h
 obtain ⟨rfl,_⟩:=h
 obtain ⟨A1,c1,rfl,_⟩:=acts_slice d4
 obtain ⟨A2,c2,rfl,_⟩:=acts_slice d5
 obtain ⟨A3,c3,rfl,_⟩:=DvAt.slice (show DvAt w (.row _ 13 mo.length _) x6 F3 from d6)
 obtain ⟨A4,c4,rfl,_⟩:=DvAt.slice (show DvAt w (.row _ 9 ks.length _) x7 F4 from d7)
 exact ⟨A1,A2,A3,A4,c1,c2,c3,c4,F1,F2,F3,F4,by rw [d0.v,d1.v,d2.v,d3.v,d8.v],d4,d5,d6,d7⟩
end Go.Proofs.YtcddbfdbhjkjgaaGreatDoor
