import Derived.Test.YtpgeidpfhakgaaaGreatDoorQh
import Derived.Test.YtpgeidpfhakgaaaGreatDoorQSeD
import Derived.Test.YtpgeidpfhakgaaaGreatDoorQXF
import Derived.Test.YtpgeidpfhakgaaaGreatDoorQXE
import Derived.Lib.Builder
import Derived.Lib.AppendStr
import Derived.Lib.UnsafeStr
import Derived.Laws.Externs
import Derived.Deep.CutRange
set_option maxHeartbeats 12800000
set_option maxRecDepth 20000
namespace Go.Proofs.YtpgeidpfhakgaaaGreatDoor
open Go.RowKit
structure GA where
 kind:Int
 name:List UInt8
 val:GX
 at_:Int
structure GM where
 kind:Int
 event:List UInt8
 wait:Int
 guarded:Bool
 guard:GX
 acts:List GA
 targets:List (List UInt8)
 at_:Int
inductive GN where
 |mk (kind:Int) (name initial dflt:List UInt8) (enter leave:List GA) (moves:List GM) (kids:List GN) (at_:Int)
structure GC where
 vars:List SyVar
 root:GN
def gEx (x:GX):List DV:=[.v (.int .i64 x.kind),.v (.int .i64 x.num),.v (txV x.name),.v (.int .i64 x.op),.sub false x.subs,.v (.int .i64 x.p)]
def gAct (a:GA):List DV:=[.v (.int .i64 a.kind),.v (txV a.name)]++gEx a.val++[.v (.int .i64 a.at_)]
def gActs (l:List GA):DV:=.row 145 9 l.length (l.flatMap gAct)
def gMove (m:GM):List DV:=[.v (.int .i64 m.kind),.v (txV m.event),.v (.int .i64 m.wait),.v (.bool m.guarded)]++gEx m.guard++[gActs m.acts,dvStrs m.targets,.v (.int .i64 m.at_)]
def gMoves (l:List GM):DV:=.row 43 13 l.length (l.flatMap gMove)
mutual
def gNode:GN->List DV
 |.mk k name ini dft en le mo ks p=>[.v (.int .i64 k),.v (txV name),.v (txV ini),.v (txV dft),gActs en,gActs le,gMoves mo,.row 27 9 ks.length (gNodes ks),.v (.int .i64 p)]
def gNodes:List GN->List DV
 |[]=>[]
 |x::l=>gNode x++gNodes l
end
def gKids (l:List GN):DV:=.row 27 9 l.length (gNodes l)
def gChart (c:GC):List DV:=dvVars c.vars::gNode c.root
theorem gNodes_flat:∀l:List GN,gNodes l=l.flatMap gNode
 |[]=>by rw [gNodes];rfl
 |x::l=>by rw [gNodes,gNodes_flat l];rfl
theorem gNode_mk (k:Int) (name ini dft:List UInt8) (en le:List GA) (mo:List GM) (ks:List GN) (p:Int) :
  gNode (.mk k name ini dft en le mo ks p)=[.v (.int .i64 k),.v (txV name),.v (txV ini),.v (txV dft),gActs en,gActs le,gMoves mo,gKids ks,.v (.int .i64 p)]:=by rw [gNode];rfl
theorem gAct_len (a:GA):(gAct a).length=9:=rfl
theorem gMove_len (a:GM):(gMove a).length=13:=rfl
theorem gNode_len:∀a:GN,(gNode a).length=9
 |.mk ..=>by rw [gNode_mk];rfl
theorem dvVar_len (a:SyVar):(dvVar a).length=3:=rfl
mutual
def DxAt (w:World):DV->Value->Prop
 |.v u,x=>x=u/\u.oneCell'=true
 |.sub _ l,x=>∃A c,x=.slice A l.length c/\l.length<=c/\c<=maxLen/\GRow w 0 w.heap.size l A 0
 |.row _ _ n cs,x=>∃A c xs,x=.slice A n c/\n<=c/\c<=maxLen/\(cs=[]∨∃g o,A=some ⟨g,o,none⟩/\g<w.heap.size/\∀i u,xs[i]?=some u->w.cell? ⟨g,o+i,none⟩=some u)/\DxsAt w cs xs
def DxsAt (w:World):List DV->List Value->Prop
 |[],xs=>xs=[]
 |d::ds,xs=>∃x ys,xs=x::ys/\DxAt w d x/\DxsAt w ds ys
end
mutual
theorem DxAt.below {w w':World} (hb:Below w.heap.size w w'):∀{d:DV} {x:Value},DxAt w d x->DxAt w' d x
 |.v _,_,h=>by unfold DxAt at h ⊢;exact h
 |.sub _ l,_,h=>by
  unfold DxAt at h ⊢;obtain ⟨A,c,h1,h2,h3,h4⟩:=h;exact ⟨A,c,h1,h2,h3,GRow.mono (n_ _) hb.size (GRow.same (λ g _ h=>hb.block g h) h4)⟩
 |.row _ _ _ cs,_,h=>by
  unfold DxAt at h ⊢;obtain ⟨A,c,xs,h1,h2,h3,h4,h5⟩:=h;refine ⟨A,c,xs,h1,h2,h3,?_,DxsAt.below hb h5⟩;rcases h4 with h4|⟨g,o,h6,h7,h8⟩
  ·exact .inl h4
  ·exact .inr ⟨g,o,h6,Nat.lt_of_lt_of_le h7 hb.size,λ i u hu=>by rw [World.cell?_of_block (hb.block g h7)];exact h8 i u hu⟩
theorem DxsAt.below {w w':World} (hb:Below w.heap.size w w'):∀{ds:List DV} {xs:List Value},DxsAt w ds xs->DxsAt w' ds xs
 |[],_,h=>by unfold DxsAt at h ⊢;exact h
 |d::ds,_,h=>by
  unfold DxsAt at h ⊢;obtain ⟨x,ys,h1,h2,h3⟩:=h;exact ⟨x,ys,h1,h2.below hb,DxsAt.below hb h3⟩
end
theorem DxAt.val {w:World} {u x:Value} (h:DxAt w (.v u) x):x=u:=by unfold DxAt at h;exact h.1
theorem DxAt.plain (w:World) {u:Value} (h:u.oneCell'=true):DxAt w (.v u) u:=by unfold DxAt;exact ⟨rfl,h⟩
theorem DxsAt.nil (w:World):DxsAt w [] []:=by unfold DxsAt;rfl
theorem DxsAt.cons {w:World} {d:DV} {x:Value} {ds:List DV} {xs:List Value} (h:DxAt w d x) (h2:DxsAt w ds xs):DxsAt w (d::ds) (x::xs):=by
 unfold DxsAt;exact ⟨x,xs,rfl,h,h2⟩
theorem DxsAt.v {w:World} {u:Value} {ds:List DV} {xs:List Value} (hu:u.oneCell'=true) (h:DxsAt w ds xs):DxsAt w (.v u::ds) (u::xs):=DxsAt.cons (DxAt.plain w hu) h
theorem DxsAt.uncons {w:World} {d:DV} {ds:List DV} {xs:List Value} (h:DxsAt w (d::ds) xs):∃x ys,xs=x::ys/\DxAt w d x/\DxsAt w ds ys:=by
 unfold DxsAt at h;exact h
theorem DxAt.slice {w:World} {e:TypeId} {k n:Nat} {cs:List DV} {x:Value} (h:DxAt w (.row e k n cs) x):∃A c,x=.slice A n c/\n<=c/\c<=maxLen:=by
 unfold DxAt at h;obtain ⟨A,c,xs,h1,h2,h3,_⟩:=h;exact ⟨A,c,h1,h2,h3⟩
theorem DxAt.one {w:World} {d:DV} {x:Value} (h:DxAt w d x):x.oneCell'=true:=by
 cases d with
 |v u=>unfold DxAt at h;rw [h.1];exact h.2
 |sub o l=>unfold DxAt at h;obtain ⟨A,c,rfl,_⟩:=h;rfl
 |row e k n cs=>unfold DxAt at h;obtain ⟨A,c,xs,rfl,_⟩:=h;rfl
theorem DxsAt.ones {w:World}:∀{ds:List DV} {xs:List Value},DxsAt w ds xs->∀u∈xs,u.oneCell'=true
 |[],_,h,u,hu=>by unfold DxsAt at h;rw [h] at hu;cases hu
 |d::ds,_,h,u,hu=>by
  obtain ⟨x,ys,rfl,h1,h2⟩:=h.uncons;rcases List.mem_cons.1 hu with rfl|hu
  ·exact h1.one
  ·exact DxsAt.ones h2 u hu
theorem DxsAt.len {w:World}:∀{ds:List DV} {xs:List Value},DxsAt w ds xs->xs.length=ds.length
 |[],_,h=>by unfold DxsAt at h;rw [h];rfl
 |d::ds,_,h=>by
  obtain ⟨x,ys,rfl,h1,h2⟩:=h.uncons;simp [DxsAt.len h2]
theorem DxsAt.app {w:World}:∀{ds:List DV} {xs:List Value} {ds':List DV} {xs':List Value},DxsAt w ds xs->DxsAt w ds' xs'->DxsAt w (ds++ds') (xs++xs')
 |[],_,_,_,h,h'=>by
  unfold DxsAt at h;rw [h];exact h'
 |d::ds,_,_,_,h,h'=>by
  obtain ⟨x,ys,rfl,h1,h2⟩:=h.uncons;exact DxsAt.cons h1 (DxsAt.app h2 h')
theorem DxsAt.cut {w:World}:∀{ds:List DV} {ds':List DV} {xs:List Value},DxsAt w (ds++ds') xs->∃xs1 xs2,xs=xs1++xs2/\DxsAt w ds xs1/\DxsAt w ds' xs2
 |[],ds',xs,h=>⟨[],xs,rfl,DxsAt.nil w,h⟩
 |d::ds,ds',_,h=>by
  rw [List.cons_append] at h;obtain ⟨x,ys,rfl,h1,h2⟩:=h.uncons;obtain ⟨xs1,xs2,rfl,h3,h4⟩:=DxsAt.cut h2;exact ⟨x::xs1,xs2,rfl,DxsAt.cons h1 h3,h4⟩
theorem DxsAt.elem {α:Type} {f:α->List DV} {k:Nat} (hk:∀a,(f a).length=k) {w:World}:∀{l:List α} {xs:List Value},DxsAt w (l.flatMap f) xs->∀{i:Nat} {a:α},l[i]?=some a->∃ys,DxsAt w (f a) ys/\ys.length=k/\∀j u,ys[j]?=some u->xs[i*k+j]?=some u
 |[],_,_,i,a,h=>by simp at h
 |x::l,xs,hd,i,a,h=>by
  rw [List.flatMap_cons] at hd;obtain ⟨xs1,xs2,rfl,h1,h2⟩:=hd.cut
  have hl:xs1.length=k:=by rw [h1.len];exact hk x
  match i,h with
  |0,h =>
   obtain rfl:x=a:=by simpa using h
   refine ⟨xs1,h1,hl,λ j u hj=>?_⟩;rw [Nat.zero_mul,Nat.zero_add,List.getElem?_append_left (List.getElem?_eq_some_iff.1 hj).1];exact hj
  |i+1,h =>
   obtain ⟨ys,h3,h4,h5⟩:=DxsAt.elem hk h2 (i:=i) (a:=a) (by simpa using h);refine ⟨ys,h3,h4,λ j u hj=>?_⟩;rw [List.getElem?_append_right (by rw [hl,Nat.succ_mul];omega),hl,Nat.succ_mul,show i*k+k+j-k=i*k+j from by omega];exact h5 j u hj
theorem DxAt.elem {α:Type} {f:α->List DV} {k:Nat} (hk:∀a,(f a).length=k) (hp:0<k) {w:World} {e:TypeId} {l:List α} {x:Value} (h:DxAt w (.row e k l.length (l.flatMap f)) x) {i:Nat} {a:α} (hi:l[i]?=some a) :
  ∃g o c ys,x=.slice (some ⟨g,o,none⟩) l.length c/\l.length<=c/\c<=maxLen/\g<w.heap.size/\DxsAt w (f a) ys/\ys.length=k/\∀j u,ys[j]?=some u->w.cell? ⟨g,o+i*k+j,none⟩=some u:=by
 unfold DxAt at h;obtain ⟨A,c,xs,rfl,h2,h3,h4,h5⟩:=h;obtain ⟨ys,h6,h7,h8⟩:=h5.elem hk hi;rcases h4 with h4|⟨g,o,rfl,h9,ha⟩
 ·rw [h4] at h5;unfold DxsAt at h5;have:=h8 0 ys[0] (List.getElem?_eq_getElem (by omega));rw [h5] at this;simp at this
 ·exact ⟨g,o,c,ys,rfl,h2,h3,h9,h6,h7,λ j u hj=>by rw [Nat.add_assoc];exact ha _ _ (h8 j u hj)⟩
theorem sub_gv' {w:World} {o:Bool} {k n op p:Int} {s:List UInt8} {l:List GX} {x:Value} (h:DxAt w (.sub o l) x):∃v:EV,x=.slice v.A v.len v.cap/\v.kind=k/\v.num=n/\txV s=.string v.name/\v.op=op/\v.p=p/\GV w 0 w.heap.size (.mk k n s op l p) v:=by
 unfold DxAt at h;obtain ⟨A,c,rfl,h1,h2,h3⟩:=h;exact ⟨⟨k,n,⟨s.toArray⟩,op,A,l.length,c,p⟩,rfl,rfl,rfl,rfl,rfl,rfl,rfl,rfl,rfl,rfl,rfl,rfl,h1,h2,h3⟩
theorem gEx_vals {w:World} {x:GX} {ds:List DV} {xs:List Value} (h:DxsAt w (gEx x++ds) xs):∃(ev:EV) (ys:List Value),xs=.int .i64 ev.kind::.int .i64 ev.num::.string ev.name::.int .i64 ev.op::.slice ev.A ev.len ev.cap::.int .i64 ev.p::ys/\GV w 0 w.heap.size x ev/\DxsAt w ds ys:=by
 unfold gEx at h;simp only [List.cons_append,List.nil_append] at h;obtain ⟨x0,ys,rfl,d0,q1⟩:=h.uncons;obtain ⟨x1,ys,rfl,d1,q2⟩:=q1.uncons;obtain ⟨x2,ys,rfl,d2,q3⟩:=q2.uncons;obtain ⟨x3,ys,rfl,d3,q4⟩:=q3.uncons;obtain ⟨x4,ys,rfl,d4,q5⟩:=q4.uncons;obtain ⟨x5,ys,rfl,d5,q6⟩:=q5.uncons;obtain ⟨ev,rfl,e1,e2,e3,e4,e5,e6⟩:=sub_gv' (k:=x.kind) (n:=x.num) (s:=x.name) (op:=x.op) (p:=x.p) d4;refine ⟨ev,ys,?_,?_,q6⟩
 ·rw [d0.val,d1.val,d2.val,d3.val,d5.val,e1,e2,e3,e4,e5]
 ·cases x with
  |mk k n s o l p=>exact e6
theorem gEx_at {w:World} {x:GX} {ev:EV} {ds:List DV} {ys:List Value} (h:GV w 0 w.heap.size x ev) (h2:DxsAt w ds ys):DxsAt w (gEx x++ds) (.int .i64 ev.kind::.int .i64 ev.num::.string ev.name::.int .i64 ev.op::.slice ev.A ev.len ev.cap::.int .i64 ev.p::ys):=by
 obtain ⟨a1,a2,a3,a4,a5,a6,a7,a8,a9⟩:=h.out;unfold gEx;simp only [List.cons_append,List.nil_append]
 have e3:txV x.name=.string ev.name:=by rw [<-a3];rfl
 rw [<-a1,<-a2,e3,<-a4,<-a5];refine .v rfl (.v rfl (.v rfl (.v rfl (.cons ?_ (.v rfl h2)))));unfold DxAt;exact ⟨ev.A,ev.cap,by rw [a6],by rw [<-a6];exact a7,a8,a9⟩
theorem act_vals' {w:World} {a:GA} {xs:List Value} (h:DxsAt w (gAct a) xs):∃ev:EV,xs=[.int .i64 a.kind,txV a.name,.int .i64 ev.kind,.int .i64 ev.num,.string ev.name,.int .i64 ev.op,.slice ev.A ev.len ev.cap,.int .i64 ev.p,.int .i64 a.at_]/\GV w 0 w.heap.size a.val ev:=by
 unfold gAct at h;simp only [List.cons_append,List.nil_append] at h;obtain ⟨x0,ys,rfl,d0,q1⟩:=h.uncons;obtain ⟨x1,ys,rfl,d1,q2⟩:=q1.uncons;obtain ⟨ev,ys,rfl,hg,q3⟩:=gEx_vals q2;obtain ⟨x2,ys,rfl,d2,q4⟩:=q3.uncons;unfold DxsAt at q4;subst q4;exact ⟨ev,by rw [d0.val,d1.val,d2.val],hg⟩
theorem move_vals' {w:World} {m:GM} {xs:List Value} (h:DxsAt w (gMove m) xs):∃(ev:EV) (A1 A2:Option Addr) (c1 c2:Nat),xs=[.int .i64 m.kind,txV m.event,.int .i64 m.wait,.bool m.guarded,.int .i64 ev.kind,.int .i64 ev.num,.string ev.name,.int .i64 ev.op,.slice ev.A ev.len ev.cap,.int .i64 ev.p,.slice A1 m.acts.length c1,.slice A2 m.targets.length c2,.int .i64 m.at_] /\
  GV w 0 w.heap.size m.guard ev/\DxAt w (gActs m.acts) (.slice A1 m.acts.length c1)/\DxAt w (dvStrs m.targets) (.slice A2 m.targets.length c2):=by
 unfold gMove at h;simp only [List.cons_append,List.nil_append] at h;obtain ⟨x0,ys,rfl,d0,q1⟩:=h.uncons;obtain ⟨x1,ys,rfl,d1,q2⟩:=q1.uncons;obtain ⟨x2,ys,rfl,d2,q3⟩:=q2.uncons;obtain ⟨x3,ys,rfl,d3,q4⟩:=q3.uncons;obtain ⟨ev,ys,rfl,hg,q5⟩:=gEx_vals q4;obtain ⟨x4,ys,rfl,d4,q6⟩:=q5.uncons;obtain ⟨x5,ys,rfl,d5,q7⟩:=q6.uncons;obtain ⟨x6,ys,rfl,d6,q8⟩:=q7.uncons;unfold DxsAt at q8;subst q8;obtain ⟨A1,c1,rfl,_⟩:=DxAt.slice (show DxAt w (.row _ 9 m.acts.length _) x4 from d4);obtain ⟨A2,c2,rfl,_⟩:=DxAt.slice (show DxAt w (.row _ 1 m.targets.length _) x5 from d5);exact ⟨ev,A1,A2,c1,c2,by rw [d0.val,d1.val,d2.val,d3.val,d6.val],hg,d4,d5⟩
theorem node_vals' {w:World} {k p:Int} {nm ini dft:List UInt8} {en le:List GA} {mo:List GM} {ks:List GN} {ds:List DV} {xs:List Value} (h:DxsAt w (gNode (.mk k nm ini dft en le mo ks p)++ds) xs) :
  ∃(A1 A2 A3 A4:Option Addr) (c1 c2 c3 c4:Nat) (ys:List Value),xs=.int .i64 k::txV nm::txV ini::txV dft::.slice A1 en.length c1::.slice A2 le.length c2::.slice A3 mo.length c3::.slice A4 ks.length c4::.int .i64 p::ys /\
   DxAt w (gActs en) (.slice A1 en.length c1)/\DxAt w (gActs le) (.slice A2 le.length c2)/\DxAt w (gMoves mo) (.slice A3 mo.length c3)/\DxAt w (gKids ks) (.slice A4 ks.length c4)/\DxsAt w ds ys:=by
 rw [gNode_mk] at h;simp only [List.cons_append,List.nil_append] at h;obtain ⟨x0,ys,rfl,d0,q1⟩:=h.uncons;obtain ⟨x1,ys,rfl,d1,q2⟩:=q1.uncons;obtain ⟨x2,ys,rfl,d2,q3⟩:=q2.uncons;obtain ⟨x3,ys,rfl,d3,q4⟩:=q3.uncons;obtain ⟨x4,ys,rfl,d4,q5⟩:=q4.uncons;obtain ⟨x5,ys,rfl,d5,q6⟩:=q5.uncons;obtain ⟨x6,ys,rfl,d6,q7⟩:=q6.uncons;obtain ⟨x7,ys,rfl,d7,q8⟩:=q7.uncons;obtain ⟨x8,ys,rfl,d8,q9⟩:=q8.uncons;obtain ⟨A1,c1,rfl,_⟩:=DxAt.slice (show DxAt w (.row _ 9 en.length _) x4 from d4);obtain ⟨A2,c2,rfl,_⟩:=DxAt.slice (show DxAt w (.row _ 9 le.length _) x5 from d5);obtain ⟨A3,c3,rfl,_⟩:=DxAt.slice (show DxAt w (.row _ 13 mo.length _) x6 from d6);obtain ⟨A4,c4,rfl,_⟩:=DxAt.slice (show DxAt w (.row _ 9 ks.length _) x7 from d7);exact ⟨A1,A2,A3,A4,c1,c2,c3,c4,ys,by rw [d0.val,d1.val,d2.val,d3.val,d8.val],d4,d5,d6,d7,q9⟩
theorem var_vals' {w:World} {a:SyVar} {xs:List Value} (h:DxsAt w (dvVar a) xs):xs=[txV a.name,.int .i64 a.num,.int .i64 a.at_]:=by
 unfold dvVar at h;obtain ⟨x0,ys,rfl,d0,q1⟩:=h.uncons;obtain ⟨x1,ys,rfl,d1,q2⟩:=q1.uncons;obtain ⟨x2,ys,rfl,d2,q3⟩:=q2.uncons;unfold DxsAt at q3;subst q3;rw [d0.val,d1.val,d2.val]
theorem acts_at {w:World} {l:List GA} {v:Value} (h:DxAt w (gActs l) v) {i:Nat} {a:GA} (hi:l[i]?=some a) :
  ∃g o c ev,v=.slice (some ⟨g,o,none⟩) l.length c/\g<w.heap.size/\w.cell? ⟨g,o+i*9,none⟩=some (.int .i64 a.kind)/\w.cell? ⟨g,o+i*9+1,none⟩=some (txV a.name)/\EvAt w g (o+i*9+2) ev/\GV w 0 w.heap.size a.val ev/\w.cell? ⟨g,o+i*9+8,none⟩=some (.int .i64 a.at_):=by
 obtain ⟨g,o,c,ys,hv,_,_,hg,h1,_,h2⟩:=DxAt.elem gAct_len (by decide) (show DxAt w (.row _ 9 l.length (l.flatMap gAct)) v from h) hi;obtain ⟨ev,rfl,h3⟩:=act_vals' h1;exact ⟨g,o,c,ev,hv,hg,h2 0 _ rfl,h2 1 _ rfl,⟨h2 2 _ rfl,h2 3 _ rfl,h2 4 _ rfl,h2 5 _ rfl,h2 6 _ rfl,h2 7 _ rfl⟩,h3,h2 8 _ rfl⟩
theorem strs_dx {w:World} {l:List (List UInt8)} {v:Value} (h:DxAt w (dvStrs l) v):∃A c,v=.slice A l.length c/\l.length<=c/\c<=maxLen/\StrAt w A (l.map λ s=>(⟨s.toArray⟩:ByteArray)):=by
 have h':DxAt w (.row 9 1 l.length (l.flatMap λ s=>[.v (txV s)])) v:=by
  unfold dvStrs at h;rw [show (l.flatMap λ s=>[DV.v (txV s)])=l.map λ s=>.v (txV s) from by rw [List.map_eq_flatMap]];exact h
 obtain ⟨A,c,hv,h1,h2⟩:=h.slice;refine ⟨A,c,hv,h1,h2,λ i s hi=>?_⟩;rw [List.getElem?_map] at hi;obtain ⟨t,ht,rfl⟩:=Option.map_eq_some_iff.1 hi;obtain ⟨g,o,c',ys,hv',_,_,hg,h3,_,h4⟩:=DxAt.elem (f:=λ s:List UInt8=>[DV.v (txV s)]) (k:=1) (λ _=>rfl) (by decide) h' ht;rw [hv] at hv'
 obtain rfl:A=some ⟨g,o,none⟩:=by injection hv'
 obtain ⟨x,ys,rfl,h5,_⟩:=h3.uncons;refine ⟨g,o,rfl,hg,?_⟩;have:=h4 0 _ rfl;rw [h5.val,Nat.mul_one] at this;exact this
mutual
def DV.pl:DV->DV
 |.v u=>.v u
 |.sub _ l=>.sub false l
 |.row e k n cs=>.row e k n (DV.pls cs)
def DV.pls:List DV->List DV
 |[]=>[]
 |d::ds=>d.pl::DV.pls ds
end
theorem pls_map:∀l:List DV,DV.pls l=l.map DV.pl
 |[]=>by rw [DV.pls];rfl
 |d::ds=>by rw [DV.pls,pls_map ds];rfl
mutual
theorem DvAt.dx {w:World}:∀{d:DV} {x:Value} {F:List Nat},DvAt w d x F->DxAt w d.pl x
 |.v u,x,F,h=>by
  unfold DvAt at h;rw [DV.pl];unfold DxAt;exact ⟨h.1,h.2.2⟩
 |.sub o l,x,F,h=>by
  obtain ⟨v,rfl,_,_,_,_,_,hg⟩:=sub_gv (k:=0) (n:=0) (op:=0) (p:=0) (s:=[]) h;obtain ⟨_,_,_,_,_,a6,a7,a8,a9⟩:=hg.out;rw [DV.pl];unfold DxAt;have a6':v.len=l.length:=a6;exact ⟨v.A,v.cap,by rw [a6'],by rw [<-a6'];exact a7,a8,a9⟩
 |.row e k n cs,x,F,h=>by
  unfold DvAt at h;obtain ⟨xs,H,h1,rfl,h2⟩:=h;rw [DV.pl];unfold DxAt;have h3:=DvsAt.dx h2;rcases h1.2 with ⟨rfl,h0⟩|⟨g,c,cur,rfl,_,hg,hc1,hc2,hc3,hc4⟩
  ·have h4:xs=[]:=List.eq_nil_of_length_eq_zero (by rw [h1.1,h0,Nat.zero_mul]);subst h4;have h5:cs=[]:=List.eq_nil_of_length_eq_zero h2.len.symm;subst h5;exact ⟨none,0,[],by rw [h0],by omega,by decide,.inl (by rw [DV.pls]),by rw [DV.pls];exact DxsAt.nil w⟩
  ·refine ⟨some ⟨g,0,none⟩,c,xs,rfl,hc1,hc2,.inr ⟨g,0,rfl,(Array.getElem?_eq_some_iff.1 hg).1,λ i u hu=>?_⟩,h3⟩;rw [Nat.zero_add,cell_of_row w g i _ _ _ hg];rw [<-hc4,List.getElem?_take] at hu
   split at hu
   ·simpa using hu
   ·cases hu
theorem DvsAt.dx {w:World}:∀{ds:List DV} {xs:List Value} {F:List Nat},DvsAt w ds xs F->DxsAt w (DV.pls ds) xs
 |[],xs,F,h=>by unfold DvsAt at h;rw [DV.pls];unfold DxsAt;exact h.1
 |d::ds,xs,F,h=>by
  unfold DvsAt at h;obtain ⟨x,ys,F1,F2,rfl,rfl,h1,h2⟩:=h;rw [DV.pls];exact DxsAt.cons h1.dx (DvsAt.dx h2)
end
end Go.Proofs.YtpgeidpfhakgaaaGreatDoor
namespace Go.Proofs.YtpgeidpfhakgaaaGreatDoor
def actW (k:Int):List UInt8:=if k=1 then wSet else if k=2 then wRaise else wEmit
def Ex.may (x:Ex):Prop:=x.fine/\x.nst<=20
structure SyAct.good (a:SyAct):Prop where
 kind:a.kind=1∨a.kind=2∨a.kind=3
 name:isNm a.name=true
 raise:a.kind=2->a.value=none
 value:a.kind≠2->∃x,a.value=some x/\x.may
def moveW (k:Int):List UInt8:=if k=1 then wOn else if k=2 then wAlways else wAfter
structure SyMove.good (m:SyMove):Prop where
 kind:m.kind=1∨m.kind=2∨m.kind=3
 event:(m.kind=1/\isNm m.event=true)∨(m.kind≠1/\m.event=[])
 wait:(m.kind=3/\0<=m.wait/\m.wait<=9223372036854775807)∨(m.kind≠3/\m.wait=0)
 guarded:m.guarded=m.guard.isSome
 guard:∀x,m.guard=some x->x.may
 acts:∀a∈m.acts,a.good
 targets:∀t∈m.targets,isNm t=true
end Go.Proofs.YtpgeidpfhakgaaaGreatDoor
namespace Go.Proofs.YtpgeidpfhakgaaaGreatDoor
def nodeW (k:Int):List UInt8:=if k=1 then wState else if k=2 then wParallel else if k=3 then wHistory else wDeep
def mvA:List SyMove->Nat
 |[]=>0
 |m::l=>m.acts.length+mvA l
mutual
def cN:SyNode->Nat
 |.mk _ _ _ _ _ _ _ ks _=>1+cNs ks
def cNs:List SyNode->Nat
 |[]=>0
 |x::l=>cN x+cNs l
end
mutual
def cM:SyNode->Nat
 |.mk _ _ _ _ _ _ mo ks _=>mo.length+cMs ks
def cMs:List SyNode->Nat
 |[]=>0
 |x::l=>cM x+cMs l
end
mutual
def cA:SyNode->Nat
 |.mk _ _ _ _ en le mo ks _=>en.length+le.length+mvA mo+cAs ks
def cAs:List SyNode->Nat
 |[]=>0
 |x::l=>cA x+cAs l
end
def GdN:Nat->SyNode->Prop
 |0,_=>False
 |d+1,.mk k nm ini dft en le mo ks _=>isNm nm=true /\
  (((k=3∨k=4)/\isNm dft=true/\ini=[]/\en=[]/\le=[]/\mo=[]/\ks=[]) ∨
   ((k=1∨k=2)/\dft=[]/\(ini=[]∨isNm ini=true)/\(∀a∈en,a.good)/\(∀a∈le,a.good)/\(∀m∈mo,m.good)/\∀x∈ks,GdN d x))
structure SyChart.good (c:SyChart):Prop where
 names:∀v∈c.vars,isNm v.name=true
 nums:∀v∈c.vars,-9223372036854775808<v.num/\v.num<=9223372036854775807
 many:c.vars.length<=16
 kind:∃nm ini dft en le mo ks p,c.root=.mk 1 nm ini dft en le mo ks p
 node:GdN 12 c.root
 nodes:cN c.root<=64
 moves:cM c.root<=200
 acts:cA c.root<=400
end Go.Proofs.YtpgeidpfhakgaaaGreatDoor
namespace Go.Proofs.YtpgeidpfhakgaaaGreatDoor
def Qs (l:List UInt8) (P:List Tk->Prop):Prop:=∀t p acc,∃ts,P ts/\scT p acc (l++t)=scT (p+l.length) (acc++ts) t
def Qn (l:List UInt8) (P:List Tk->Prop):Prop:=∀t,NW t->∀p acc,∃ts,P ts/\scT p acc (l++t)=scT (p+l.length) (acc++ts) t
theorem Qs.imp {l:List UInt8} {P P':List Tk->Prop} (h:Qs l P) (hp:∀ts,P ts->P' ts):Qs l P':=λ t p acc=>by
 obtain ⟨ts,h1,h2⟩:=h t p acc;exact ⟨ts,hp ts h1,h2⟩
theorem Qs.nil:Qs [] (λ ts=>ts=[]):=λ t p acc=>⟨[],rfl,by simp⟩
theorem Qs.blank {l:List UInt8} {P:List Tk->Prop} (h:Qs l P):Qs (32::l) P:=λ t p acc=>by
 obtain ⟨ts,h1,h2⟩:=h t (p+1) acc;refine ⟨ts,h1,?_⟩;rw [List.cons_append,scT_blank (by decide),h2,List.length_cons,show p+1+l.length=p+(l.length+1) from by omega]
theorem Qs.app {l m:List UInt8} {P P':List Tk->Prop} (h:Qs l P) (h':Qs m P'):Qs (l++m) (λ ts=>∃u v,ts=u++v/\P u/\P' v):=λ t p acc=>by
 obtain ⟨u,h1,h2⟩:=h (m++t) p acc;obtain ⟨v,h3,h4⟩:=h' t (p+l.length) (acc++u);refine ⟨u++v,⟨u,v,rfl,h1,h3⟩,?_⟩;rw [a_,h2,h4,List.length_append,a_,Nat.add_assoc]
theorem Qn.app {l m:List UInt8} {P P':List Tk->Prop} (h:Qn l P) (h':Qs m P') (hm:∀t,NW (m++t)):Qs (l++m) (λ ts=>∃u v,ts=u++v/\P u/\P' v):=λ t p acc=>by
 obtain ⟨u,h1,h2⟩:=h (m++t) (hm t) p acc;obtain ⟨v,h3,h4⟩:=h' t (p+l.length) (acc++u);refine ⟨u++v,⟨u,v,rfl,h1,h3⟩,?_⟩;rw [a_,h2,h4,List.length_append,a_,Nat.add_assoc]
def kwOk:List UInt8->Bool
 |[]=>false
 |c::u=>isLt c&&decide (wdK (c::u)=(c::u).length)&&decide ((c::u).length<=24)&&isKw (c::u)
theorem Qn.name {s:List UInt8} (h:isNm s=true):Qn s (λ ts=>∃q,ts=[⟨1,s,0,q⟩]):=λ _ ht p acc=>⟨_,⟨(p:Int),rfl⟩,scT_name h ht p acc⟩
theorem Qn.int {n:Int} (h0:0<=n) (h1:n<=9223372036854775807):Qn (Lib.itoa n) (λ ts=>∃q,ts=[⟨3,[],n,q⟩]):=λ _ ht p acc=>⟨_,⟨(p:Int),rfl⟩,scT_int h0 h1 ht p acc⟩
theorem Qn.ex {x:Ex} (h:x.fine):Qn x.tx (λ ts=>∃x',Sp x' ts/\x'.er=x.er):=λ t ht p acc=>by
 obtain ⟨ts,x',h1,h2,h3⟩:=sc_tx x h t ht p acc;exact ⟨ts,⟨x',h1,h2⟩,h3⟩
theorem Qs.sign {c:UInt8} (hl:isLt c=false) (hd:isDg c=false) (hb:∀t,blK false (c::t)=0) (hs:∀t,sgn (c::t)=1):Qs [c] (λ ts=>∃q,ts=[⟨4,[c],0,q⟩]):=λ t p acc=>by
 refine ⟨_,⟨(p:Int),rfl⟩,?_⟩;show scT p acc (c::t)=_;rw [scT_sign (n:=1) hl hd (hb t) (hs t) (by decide)];rfl
theorem Qs.lb:Qs [123] (λ ts=>∃q,ts=[⟨4,[123],0,q⟩]):=Qs.sign (by decide) (by decide) (λ _=>by rfl) (λ t=>by cases t <;> rfl)
theorem Qs.rk:Qs [93] (λ ts=>∃q,ts=[⟨4,[93],0,q⟩]):=Qs.sign (by decide) (by decide) (λ _=>by rfl) (λ t=>by cases t <;> rfl)
def valT:Option Ex->List UInt8
 |none=>[59]
 |some x=>32::([61,32]++(x.tx++[59]))
def actT (a:SyAct):List UInt8:=actW a.kind++32::(a.name++valT a.value)
def actsT:List SyAct->List UInt8
 |[]=>[]
 |a::l=>32::(actT a++actsT l)
def blockT (l:List SyAct):List UInt8:=[123]++(actsT l++32::[125])
def gdT:Option Ex->List UInt8
 |none=>[]
 |some x=>32::([91]++(x.tx++[93]))
def blkT (l:List SyAct):List UInt8:=if l=[] then [] else 32::blockT l
def tgT1:List (List UInt8)->List UInt8
 |[]=>[]
 |y::l=>[44]++32::(y++tgT1 l)
def tgtT:List (List UInt8)->List UInt8
 |[]=>[]
 |x::l=>32::([45,62]++32::(x++tgT1 l))
def evT (m:SyMove):List UInt8:=if m.kind=1 then 32::m.event else if m.kind=2 then [] else 32::Lib.itoa m.wait
def moveT (m:SyMove):List UInt8:=moveW m.kind++(evT m++(gdT m.guard++(blkT m.acts++(tgtT m.targets++[59]))))
theorem actW_ok {k:Int} (h:k=1∨k=2∨k=3):kwOk (actW k)=true:=by rcases h with rfl|rfl|rfl <;> decide
end Go.Proofs.YtpgeidpfhakgaaaGreatDoor
namespace Go.Proofs.YtpgeidpfhakgaaaGreatDoor
def ind (d:Nat) (s:List UInt8):List UInt8:=List.replicate (2*d) 32++(s++[10])
theorem Qs.blanks {l:List UInt8} {P:List Tk->Prop} (h:Qs l P):∀n,Qs (List.replicate n 32++l) P
 |0=>h
 |n+1=>by
  rw [List.replicate_succ,List.cons_append];exact (Qs.blanks h n).blank
theorem Qs.lf {l:List UInt8} {P:List Tk->Prop} (h:Qs l P):Qs (l++[10]) P:=λ t p acc=>by
 obtain ⟨ts,h1,h2⟩:=h (10::t) p acc;refine ⟨ts,h1,?_⟩;rw [a_];show scT p acc (l++10::t)=_;rw [h2,scT_blank (by decide),List.length_append];rfl
theorem Qs.ind {l:List UInt8} {P:List Tk->Prop} (h:Qs l P) (d:Nat):Qs (ind d l) P:=h.lf.blanks _
def iniT (d:Nat) (i:List UInt8):List UInt8:=if i=[] then [] else ind d (wInitial++32::(i++[59]))
def clT (d:Nat) (w:List UInt8) (l:List SyAct):List UInt8:=if l=[] then [] else ind d (w++32::blockT l)
def mvsT (d:Nat):List SyMove->List UInt8
 |[]=>[]
 |m::l=>ind d (moveT m)++mvsT d l
mutual
def nodeT (d:Nat):SyNode->List UInt8
 |.mk k nm ini dft en le mo ks _=>if 3<=k then ind d (nodeW k++32::(nm++32::([45,62]++32::(dft++[59]))))
  else ind d (nodeW k++32::(nm++32::[123]))++(iniT (d+1) ini++(clT (d+1) wEnter en++(clT (d+1) wLeave le++(mvsT (d+1) mo++(nodesT (d+1) ks++ind d [125])))))
def nodesT (d:Nat):List SyNode->List UInt8
 |[]=>[]
 |x::l=>nodeT d x++nodesT d l
end
def pvarT (v:SyVar):List UInt8:=wVar++32::(v.name++32::([61,32]++(Lib.itoa v.num++[59])))
def pvarsT:List SyVar->List UInt8
 |[]=>[]
 |v::l=>ind 1 (pvarT v)++pvarsT l
def chartT (c:SyChart):List UInt8:=match c.root with
 |.mk _ nm ini _ en le mo ks _=>ind 0 (wChart++32::(nm++32::[123]))++(pvarsT c.vars++(iniT 1 ini++(clT 1 wEnter en++(clT 1 wLeave le++(mvsT 1 mo++(nodesT 1 ks++ind 0 [125]))))))
theorem nodeW_ok {k:Int} (h:k=1∨k=2∨k=3∨k=4):kwOk (nodeW k)=true:=by rcases h with rfl|rfl|rfl|rfl <;> decide
end Go.Proofs.YtpgeidpfhakgaaaGreatDoor
namespace Go.Proofs.YtpgeidpfhakgaaaGreatDoor
def Shr (k:Nat) (e:Ex) (c w w':Nat):Prop:=(par (decide (e.lev<k)) e.tx).length+3*w'<=c+3*w
theorem par_mono {a b:Bool} (h:a=true->b=true) (s:List UInt8):(par a s).length<=(par b s).length:=by
 cases a
 ·cases b
  ·exact n_ _
  ·simp [par];omega
 ·rw [h rfl];exact n_ _
theorem par_lev {k k':Nat} (h:k<=k') (e:Ex) (s:List UInt8):(par (decide (e.lev<k)) s).length<=(par (decide (e.lev<k')) s).length :=
 par_mono (λ c=>decide_eq_true (Nat.lt_of_lt_of_le (of_decide_eq_true c) h)) s
theorem p_short:∀f,
  (∀k d ts e r,k<=6->d<=20->(∀t∈ts,Lex t)->pFrom f k d ts=.ok e r->Shr k e 0 (szs ts) (szs r)) /\
  (∀k d x ts e r,k<6->d<=20->(∀t∈ts,Lex t)->pMore f k d x ts=.ok e r->Shr k e (par (decide (x.lev<k)) x.tx).length (szs ts) (szs r)) /\
  (∀d ts e r,d<=20->(∀t∈ts,Lex t)->pOne f d ts=.ok e r->Shr 6 e 0 (szs ts) (szs r))
 |0=>⟨λ _ _ _ _ _ _ _ _ h=>by simp [pFrom] at h,λ _ _ _ _ _ _ _ _ _ h=>by simp [pMore] at h,λ _ _ _ _ _ _ h=>by simp [pOne] at h⟩
 |f+1=>by
  obtain ⟨h1,h2,h3⟩:=p_short f;obtain ⟨i1,i2,i3⟩:=p_good f;refine ⟨λ k d ts e r hk hd ht h=>?_,λ k d x ts e r hk hd ht h=>?_,λ d ts e r hd ht h=>?_⟩
  ·rw [pFrom_succ] at h
   split at h
   ·rename_i h6;subst h6;exact h3 _ _ _ _ hd ht h
   ·obtain ⟨y,u,e1,h⟩:=PR.andThen_ok h;have g1:=h1 _ _ _ _ _ (by omega) hd ht e1;obtain ⟨_,ht1⟩:=i1 _ _ _ _ _ (by omega) hd ht e1;have g2:=h2 _ _ _ _ _ _ (by omega) hd ht1 h;unfold Shr at g1 g2 ⊢;have:=par_lev (show k<=k+1 by omega) y y.tx;omega
  ·rw [pMore_succ] at h
   split at h
   ·injection h with e1 e2;subst e1 e2;exact n_ _
   ·rename_i h0;obtain ⟨t,ts,rfl⟩:=opAt_some h0;obtain ⟨hrow,_,hk4,htx⟩:=row_of_op h0;rw [List.tail_cons] at h;obtain ⟨y,u,e1,h⟩:=PR.andThen_ok h;have htt:∀t∈ts,Lex t:=λ t ht'=>ht t (by simp [ht']);have g1:=h1 _ _ _ _ _ (by omega) hd htt e1;obtain ⟨_,ht1⟩:=i1 _ _ _ _ _ (by omega) hd htt e1;generalize opAt k (t::ts)=op at *
    have hr6:rowOf op<6:=by omega
    have g2:=h2 k d (.both op x y) u e r hk hd ht1 h;have hsg:=sg_len hr6
    have hsz:t.sz=(sgOf op).length:=by
     unfold Tk.sz;rw [if_neg (by rw [hk4];decide),htx]
    have e6:(par (decide ((Ex.both op x y).lev<k)) (Ex.both op x y).tx).length=(par (decide (x.lev<k)) x.tx).length+(2+(sgOf op).length)+(par (decide (y.lev<k+1)) y.tx).length:=by
     have e7:(Ex.both op x y).lev=k:=hrow;rw [e7,decide_eq_false (Nat.lt_irrefl k)];show (par (decide (x.lev<rowOf op)) x.tx++32::(sgOf op++32::par (decide (y.lev<=rowOf op)) y.tx)).length=_;rw [hrow,show decide (y.lev<=k)=decide (y.lev<k+1) from by simp only [Nat.lt_succ_iff]];simp only [List.length_append,List.length_cons];omega
    unfold Shr at g1 g2 ⊢;rw [e6] at g2;show _+3*szs r<=_+3*(t.sz+szs ts);omega
  ·cases ts with
   |nil=>rw [pOne_nil] at h;cases h
   |cons t ts =>
    have htt:∀u∈ts,Lex u:=λ u hu=>ht u (by simp [hu]);have hsz:szs (t::ts)=t.sz+szs ts:=rfl;rw [pOne_cons] at h
    split at h
    ·rename_i hs
     split at h
     ·cases h
     ·obtain ⟨z,v,e1,h⟩:=PR.andThen_ok h;injection h with e2 e3;subst e2 e3;have g1:=h3 _ _ _ _ (by omega) htt e1;obtain ⟨g0,_⟩:=i3 _ _ _ _ (by omega) htt e1
      have hz:t.sz=1:=by rcases hs with hs|hs <;> exact isSg_sz hs
      have hpm:(par z.isBoth z.tx).length<=(par (decide (z.lev<6)) z.tx).length:=by
       refine par_mono (λ c=>?_) _
       cases z with
       |both op a b=>exact decide_eq_true g0.fine.1
       |_=>cases c
      unfold Shr at g1 ⊢;show (_::par z.isBoth z.tx).length+_<=_;rw [List.length_cons,hsz];omega
    ·split at h
     ·rename_i hs
      split at h
      ·cases h
      ·obtain ⟨z,v,e1,h⟩:=PR.andThen_ok h;obtain ⟨t',rfl,hs',rfl⟩:=shutP_some h;have g1:=h1 _ _ _ _ _ (by omega) (by omega) htt e1;have e2:szs (t'::r)=t'.sz+szs r:=rfl;have b1:t.sz=1:=isSg_sz hs;have b2:t'.sz=1:=isSg_sz hs';unfold Shr at g1 ⊢;rw [decide_eq_false (Nat.not_lt_zero _)] at g1;have b3:=par_len (decide (e.lev<6)) e.tx;change e.tx.length+3*szs (t'::r)<=0+3*szs ts at g1;rw [hsz];omega
     ·split at h
      ·rename_i h3';injection h with e1 e2;subst e1 e2;unfold Shr;show (Lib.itoa t.num).length+_<=_
       have:t.sz=(Lib.itoa t.num).length:=by unfold Tk.sz;rw [if_pos h3']
       omega
      ·split at h
       ·rename_i h3' h1';injection h with e1 e2;subst e1 e2;unfold Shr;show t.text.length+_<=_
        have:t.sz=t.text.length:=by unfold Tk.sz;rw [if_neg h3']
        omega
       ·split at h
        ·rename_i h3' h1' h2';obtain ⟨a,b,c,rfl,ha,hb,hc,rfl⟩:=innP_some h;unfold Shr;show (105::110::40::(b.text++[41])).length+_<=_
         have z1:t.sz=2:=by unfold Tk.sz;rw [if_neg h3',h2'.2];rfl
         have z2:a.sz=1:=isSg_sz ha
         have z3:b.sz=b.text.length:=by unfold Tk.sz;rw [if_neg (by rw [hb];decide)]
         have z4:c.sz=1:=isSg_sz hc;have e2:szs (a::b::c::r)=a.sz+(b.sz+(c.sz+szs r)):=rfl;rw [hsz,e2];simp only [List.length_cons,List.length_append,List.length_nil];omega
        ·exact absurd h wrongAt_not
def LM (M:Nat) (ts:List Tk):Prop:=(∀t∈ts,Lex t)/\szs ts<=M
theorem LM.cons {M:Nat} {t:Tk} {r:List Tk} (h:LM M (t::r)):LM M r:=⟨λ q hq=>h.1 q (List.mem_cons_of_mem _ hq),by have:=h.2;change t.sz+szs r<=M at this;omega⟩
theorem LM.tail {M:Nat}:∀{l:List Tk},LM M l->LM M l.tail
 |[],h=>h
 |_::_,h=>h.cons
def Ex.mayM (M:Nat) (x:Ex):Prop:=x.may/\x.tx.length<=3*M
structure SyAct.goodM (M:Nat) (a:SyAct):Prop where
 kind:a.kind=1∨a.kind=2∨a.kind=3
 name:isNm a.name=true
 raise:a.kind=2->a.value=none
 value:a.kind≠2->∃x,a.value=some x/\x.mayM M
structure SyMove.goodM (M:Nat) (m:SyMove):Prop where
 kind:m.kind=1∨m.kind=2∨m.kind=3
 event:(m.kind=1/\isNm m.event=true)∨(m.kind≠1/\m.event=[])
 wait:(m.kind=3/\0<=m.wait/\m.wait<=9223372036854775807)∨(m.kind≠3/\m.wait=0)
 guarded:m.guarded=m.guard.isSome
 guard:∀x,m.guard=some x->x.mayM M
 acts:∀a∈m.acts,a.goodM M
 targets:∀t∈m.targets,isNm t=true
def GdNM (M:Nat):Nat->SyNode->Prop
 |0,_=>False
 |d+1,.mk k nm ini dft en le mo ks _=>isNm nm=true /\
  (((k=3∨k=4)/\isNm dft=true/\ini=[]/\en=[]/\le=[]/\mo=[]/\ks=[]) ∨
   ((k=1∨k=2)/\dft=[]/\(ini=[]∨isNm ini=true)/\(∀a∈en,a.goodM M)/\(∀a∈le,a.goodM M)/\(∀m∈mo,m.goodM M)/\∀x∈ks,GdNM M d x))
structure SyChart.goodM (M:Nat) (c:SyChart):Prop where
 names:∀v∈c.vars,isNm v.name=true
 nums:∀v∈c.vars,-9223372036854775808<v.num/\v.num<=9223372036854775807
 many:c.vars.length<=16
 kind:∃nm ini dft en le mo ks p,c.root=.mk 1 nm ini dft en le mo ks p
 node:GdNM M 12 c.root
 nodes:cN c.root<=64
 moves:cM c.root<=200
 acts:cA c.root<=400
theorem It_inv {σ:Type} {stp:σ->Ss->Rs (σ×Bool)} (I:σ->Ss->Prop) (h:∀x s y s',I x s->stp x s=.ok y s'->I y.1 s') {x:σ} {s:Ss} {y:σ} {s':Ss} (h0:I x s) (e:It stp x s=.ok y s'):I y s':=by
 unfold It at e
 have go:∀(f:Nat) (x:σ) (s:Ss),I x s->itF stp f x s=.ok y s'->I y s':=by
  intro f
  induction f with
  |zero=>intro x s _ e;cases e
  |succ f ih =>
   intro x s h0 e;rw [itF] at e;obtain ⟨z,s1,e1,e2⟩:=Rs.some e;have h1:=h _ _ _ _ h0 e1
   split at e2
   ·exact ih _ _ h1 e2
   ·injection e2 with e3 e4;rw [<-e3,<-e4];exact h1
 exact go _ _ _ h0 e
theorem actK_le (ts:List Tk):actK ts=0∨actK ts=1∨actK ts=2∨actK ts=3:=by
 unfold actK wordAt wordAt wordAt wordAt
 split
 ·simp
 ·split
  ·simp
  ·split <;> simp
theorem moveK_le (ts:List Tk):moveK ts=0∨moveK ts=1∨moveK ts=2∨moveK ts=3:=by
 unfold moveK wordAt wordAt wordAt wordAt
 split
 ·simp
 ·split
  ·simp
  ·split <;> simp
theorem nodeK_le (ts:List Tk):nodeK ts=0∨nodeK ts=1∨nodeK ts=2∨nodeK ts=3∨nodeK ts=4:=by
 unfold nodeK wordAt wordAt wordAt wordAt wordAt
 split
 ·simp
 ·split
  ·simp
  ·split
   ·simp
   ·split <;> simp
theorem mvA_app:∀(l:List SyMove) (x:SyMove),mvA (l++[x])=mvA l+x.acts.length
 |[],x=>by simp [mvA]
 |y::l,x=>by rw [List.cons_append,mvA,mvA,mvA_app l x,Nat.add_assoc]
theorem cNs_app:∀(l l':List SyNode),cNs (l++l')=cNs l+cNs l'
 |[],l'=>by rw [List.nil_append,cNs,Nat.zero_add]
 |x::l,l'=>by rw [List.cons_append,cNs,cNs,cNs_app l l',Nat.add_assoc]
theorem cMs_app:∀(l l':List SyNode),cMs (l++l')=cMs l+cMs l'
 |[],l'=>by rw [List.nil_append,cMs,Nat.zero_add]
 |x::l,l'=>by rw [List.cons_append,cMs,cMs,cMs_app l l',Nat.add_assoc]
theorem cAs_app:∀(l l':List SyNode),cAs (l++l')=cAs l+cAs l'
 |[],l'=>by rw [List.nil_append,cAs,Nat.zero_add]
 |x::l,l'=>by rw [List.cons_append,cAs,cAs,cAs_app l l',Nat.add_assoc]
namespace Sz
variable {M:Nat}
def St (M:Nat) (s:Ss) (n m a:Nat):Prop:=LM M s.ts/\s.n=n/\s.m=m/\s.a=a/\n<=64/\m<=200/\a<=400
theorem St.drop {s:Ss} {n m a:Nat} (h:St M s n m a):St M s.drop n m a:=⟨h.1.tail,h.2⟩
theorem must_st {k:Int} {u:List UInt8} {s s':Ss} {x:Unit} {n m a:Nat} (h:St M s n m a) (e:mustR k u s=.ok x s'):St M s' n m a:=by
 unfold mustR at e
 split at e
 ·injection e with _ e;rw [<-e];exact h.drop
 ·obtain ⟨_,_,w⟩:=wrong_bad (α:=Unit) s.ts;rw [w] at e;cases e
theorem name_st {s s':Ss} {x:List UInt8×Int} {n m a:Nat} (h:St M s n m a) (e:nameR s=.ok x s'):St M s' n m a/\isNm x.1=true:=by
 obtain ⟨ts,sn,sm,sa⟩:=s;unfold nameR at e
 cases ts with
 |nil=>cases e
 |cons t r =>
  simp only at e
  split at e
  ·injection e with e1 e2;rw [<-e1,<-e2];exact ⟨⟨LM.cons h.1,h.2⟩,(h.1.1 t (List.mem_cons_self)).1 (by assumption)⟩
  ·obtain ⟨_,_,w⟩:=wrong_bad (α:=List UInt8×Int) (t::r);rw [w] at e;cases e
theorem num_st {s s':Ss} {x:Int} {n m a:Nat} (h:St M s n m a) (e:numR s=.ok x s'):St M s' n m a/\0<=x/\x<=9223372036854775807:=by
 obtain ⟨ts,sn,sm,sa⟩:=s;unfold numR at e
 cases ts with
 |nil=>cases e
 |cons t r =>
  simp only at e
  split at e
  ·injection e with e1 e2;rw [<-e1,<-e2];exact ⟨⟨LM.cons h.1,h.2⟩,(h.1.1 t (List.mem_cons_self)).2 (by assumption)⟩
  ·obtain ⟨_,_,w⟩:=wrong_bad (α:=Int) (t::r);rw [w] at e;cases e
theorem expr_st {s s':Ss} {x:Ex} {n m a:Nat} (h:St M s n m a) (e:exprR s=.ok x s'):St M s' n m a/\x.mayM M:=by
 unfold exprR at e
 split at e
 ·cases e
 ·cases e
 ·rename_i y r hp;injection e with e1 e2;obtain ⟨g,hr⟩:=(p_good _).1 0 0 _ _ _ (by omega) (by omega) h.1.1 hp;have hs:=(p_short _).1 0 0 _ _ _ (by omega) (by omega) h.1.1 hp;unfold Shr at hs;have hm:=h.1.2;rw [<-e1,<-e2];have:=g.deep;rw [decide_eq_false (Nat.not_lt_zero _)] at hs;change y.tx.length+3*szs r<=0+3*szs s.ts at hs
  have hr2:szs r<=M:=by omega
  have hy:y.tx.length<=3*M:=by omega
  exact ⟨⟨⟨hr,hr2⟩,h.2⟩,⟨g.fine,by omega⟩,hy⟩
theorem actV_st {k:Nat} {s s':Ss} {v:Option Ex} {n m a:Nat} (h:St M s n m a) (e:actV k s=.ok v s'):St M s' n m a/\(k=2->v=none)/\(k≠2->∃x,v=some x/\x.mayM M):=by
 unfold actV at e
 split at e
 ·rename_i hk;injection e with e1 e2;rw [<-e1,<-e2];exact ⟨h,λ _=>rfl,λ h=>absurd hk h⟩
 ·rename_i hk;obtain ⟨_,s1,a1,e⟩:=Rs.some e;obtain ⟨x,s2,a2,e⟩:=Rs.some e;injection e with e1 e2;obtain ⟨k1,k2⟩:=expr_st (must_st h a1) a2;rw [<-e1,<-e2];exact ⟨k1,λ h=>absurd h hk,λ _=>⟨x,rfl,k2⟩⟩
theorem act_st {s s':Ss} {x:SyAct} {n m a:Nat} (h:St M s n m a) (e:actR s=.ok x s'):St M s' n m (a+1)/\x.goodM M:=by
 unfold actR at e
 split at e
 ·obtain ⟨_,_,w⟩:=wrong_bad (α:=SyAct) s.ts;rw [w] at e;cases e
 ·rename_i h0
  split at e
  ·cases hs:s.ts with
   |nil=>rw [hs] at e;cases e
   |cons t r=>rw [hs] at e;cases e
  ·rename_i h4
   have hs1:St M ⟨s.ts.tail,s.n,s.m,s.a+1⟩ n m (a+1):=by
    obtain ⟨k1,k2,k3,k4,k5,k6,k7⟩:=h;exact ⟨LM.tail k1,k2,k3,by show s.a+1=_;omega,k5,k6,by omega⟩
   obtain ⟨y,s1,a1,e⟩:=Rs.some e;obtain ⟨v,s2,a2,e⟩:=Rs.some e;obtain ⟨_,s3,a3,e⟩:=Rs.some e;injection e with e1 e2;obtain ⟨k1,k2⟩:=name_st hs1 a1;obtain ⟨k3,k4,k5⟩:=actV_st k1 a2;rw [<-e1,<-e2];have hk:=actK_le s.ts;refine ⟨must_st k3 a3,?_,k2,λ hh=>k4 ?_,λ hh=>k5 ?_⟩
   ·show ((actK s.ts:Nat):Int)=1∨((actK s.ts:Nat):Int)=2∨((actK s.ts:Nat):Int)=3;omega
   ·have:((actK s.ts:Nat):Int)=2:=hh;omega
   ·have:¬((actK s.ts:Nat):Int)=2:=hh;omega
theorem block_st {s s':Ss} {l:List SyAct} {n m a:Nat} (h:St M s n m a) (e:blockR s=.ok l s'):St M s' n m (a+l.length)/\∀x∈l,x.goodM M:=by
 obtain ⟨_,s1,a1,e⟩:=Rs.some e;refine It_inv (λ (l:List SyAct) s=>St M s n m (a+l.length)/\∀x∈l,x.goodM M) (λ x s y s' hi e=>?_) ⟨must_st h a1,λ x hx=>by cases hx⟩ e;unfold blkS at e
 split at e
 ·injection e with e1 e2;rw [<-e1,<-e2];exact ⟨hi.1.drop,hi.2⟩
 ·obtain ⟨z,s2,a2,e⟩:=Rs.some e;injection e with e1 e2;obtain ⟨k1,k2⟩:=act_st hi.1 a2;rw [<-e1,<-e2];refine ⟨by rw [List.length_append];exact k1,λ q hq=>?_⟩;rcases List.mem_append.1 hq with hq|hq
  ·exact hi.2 q hq
  ·obtain rfl:q=z:=by simpa using hq
   exact k2
theorem move_st {s s':Ss} {x:SyMove} {n m a:Nat} (h:St M s n m a) (h0:moveK s.ts≠0) (e:moveR s=.ok x s'):St M s' n (m+1) (a+x.acts.length)/\x.goodM M:=by
 unfold moveR at e
 split at e
 ·cases hs:s.ts with
  |nil=>rw [hs] at e;cases e
  |cons t r=>rw [hs] at e;cases e
 ·have hs1:St M ⟨s.ts.tail,s.n,s.m+1,s.a⟩ n (m+1) a:=by
   obtain ⟨k1,k2,k3,k4,k5,k6,k7⟩:=h;exact ⟨LM.tail k1,k2,by show s.m+1=_;omega,k4,k5,by omega,k7⟩
  have hk:=moveK_le s.ts;obtain ⟨ev,s1,a1,e⟩:=Rs.some e;obtain ⟨w,s2,a2,e⟩:=Rs.some e;obtain ⟨g,s3,a3,e⟩:=Rs.some e;obtain ⟨l,s4,a4,e⟩:=Rs.some e;obtain ⟨q,s5,a5,e⟩:=Rs.some e;obtain ⟨_,s6,a6,e⟩:=Rs.some e
  have b1:St M s1 n (m+1) a/\((moveK s.ts=1/\isNm ev=true)∨(moveK s.ts≠1/\ev=[])):=by
   unfold evR at a1
   split at a1
   ·rename_i hk1;obtain ⟨y,s7,c1,c2⟩:=Rs.some a1;injection c2 with c3 c4;obtain ⟨d1,d2⟩:=name_st hs1 c1;rw [<-c3,<-c4];exact ⟨d1,.inl ⟨hk1,d2⟩⟩
   ·rename_i hk1;injection a1 with c3 c4;rw [<-c3,<-c4];exact ⟨hs1,.inr ⟨hk1,rfl⟩⟩
  have b2:St M s2 n (m+1) a/\((moveK s.ts=3/\0<=w/\w<=9223372036854775807)∨(moveK s.ts≠3/\w=0)):=by
   unfold waitR at a2
   split at a2
   ·rename_i hk1;obtain ⟨d1,d2⟩:=num_st b1.1 a2;exact ⟨d1,.inl ⟨hk1,d2⟩⟩
   ·rename_i hk1;injection a2 with c3 c4;rw [<-c3,<-c4];exact ⟨b1.1,.inr ⟨hk1,rfl⟩⟩
  have b3:St M s3 n (m+1) a/\∀x,g=some x->x.mayM M:=by
   unfold guardR at a3
   split at a3
   ·obtain ⟨y,s7,c1,c2⟩:=Rs.some a3;obtain ⟨_,s8,c3,c4⟩:=Rs.some c2;injection c4 with c5 c6;obtain ⟨d1,d2⟩:=expr_st b2.1.drop c1;rw [<-c5,<-c6];exact ⟨must_st d1 c3,λ x hx=>by injection hx with hx;rw [<-hx];exact d2⟩
   ·injection a3 with c3 c4;rw [<-c3,<-c4];exact ⟨b2.1,λ x hx=>by cases hx⟩
  have b4:St M s4 n (m+1) (a+l.length)/\∀x∈l,x.goodM M:=by
   unfold actsR at a4
   split at a4
   ·exact block_st b3.1 a4
   ·injection a4 with c3 c4;rw [<-c3,<-c4];exact ⟨b3.1,λ x hx=>by cases hx⟩
  have b5:St M s5 n (m+1) (a+l.length)/\∀t∈q,isNm t=true:=by
   unfold tgtR at a5
   split at a5
   ·refine It_inv (λ (l':List (List UInt8)) s=>St M s n (m+1) (a+l.length)/\∀t∈l',isNm t=true) (λ x s y s' hi e=>?_) ⟨b4.1.drop,λ x hx=>by cases hx⟩ a5;obtain ⟨z,s2,c1,c2⟩:=Rs.some e;obtain ⟨d1,d2⟩:=name_st hi.1 c1
    have all:∀t∈x++[z.1],isNm t=true:=λ t ht=>by
     rcases List.mem_append.1 ht with ht|ht
     ·exact hi.2 t ht
     ·obtain rfl:t=z.1:=by simpa using ht
      exact d2
    split at c2
    ·injection c2 with c3 c4;rw [<-c3,<-c4];exact ⟨d1.drop,all⟩
    ·injection c2 with c3 c4;rw [<-c3,<-c4];exact ⟨d1,all⟩
   ·injection a5 with c3 c4;rw [<-c3,<-c4];exact ⟨b4.1,λ x hx=>by cases hx⟩
  injection e with e1 e2;rw [<-e1,<-e2];refine ⟨must_st b5.1 a6,?_,?_,?_,rfl,b3.2,b4.2,b5.2⟩
  ·show ((moveK s.ts:Nat):Int)=1∨((moveK s.ts:Nat):Int)=2∨((moveK s.ts:Nat):Int)=3;omega
  ·rcases b1.2 with c|c
   ·exact .inl ⟨by show ((moveK s.ts:Nat):Int)=1;omega,c.2⟩
   ·exact .inr ⟨by show ¬((moveK s.ts:Nat):Int)=1;omega,c.2⟩
  ·rcases b2.2 with c|c
   ·exact .inl ⟨by show ((moveK s.ts:Nat):Int)=3;omega,c.2⟩
   ·exact .inr ⟨by show ¬((moveK s.ts:Nat):Int)=3;omega,c.2⟩
structure BSt (M:Nat) (b:SyB):Prop where
 ini:b.initial=[]∨isNm b.initial=true
 enter:∀x∈b.enter,x.goodM M
 leave:∀x∈b.leave,x.goodM M
 moves:∀x∈b.moves,x.goodM M
 he:b.he=false->b.enter=[]
 hl:b.hl=false->b.leave=[]
def BSv (M n m a:Nat) (b:SyB) (s:Ss):Prop:=St M s n (m+b.moves.length) (a+(b.enter.length+b.leave.length+mvA b.moves))/\BSt M b
theorem clause_st {n m a:Nat} (b:SyB) (s:Ss) (y:SyB×Bool) (s':Ss) (h:BSv M n m a b s) (e:clauseS b s=.ok y s'):BSv M n m a y.1 s':=by
 obtain ⟨h,hb⟩:=h;unfold clauseS at e
 split at e
 ·unfold initS at e
  split at e
  ·obtain ⟨_,_,w⟩:=wrong_bad (α:=SyB×Bool) s.ts;rw [w] at e;cases e
  ·obtain ⟨x,s1,a1,e⟩:=Rs.some e;obtain ⟨_,s2,a2,e⟩:=Rs.some e;obtain ⟨k1,k2⟩:=name_st h.drop a1;injection e with e1 e2;rw [<-e1,<-e2];exact ⟨must_st k1 a2,.inr k2,hb.enter,hb.leave,hb.moves,hb.he,hb.hl⟩
 ·split at e
  ·unfold enterS at e
   split at e
   ·obtain ⟨_,_,w⟩:=wrong_bad (α:=SyB×Bool) s.ts;rw [w] at e;cases e
   ·rename_i hh;have h0:=hb.he (by simpa using hh);obtain ⟨l,s1,a1,e⟩:=Rs.some e;obtain ⟨k1,k2⟩:=block_st h.drop a1;injection e with e1 e2;rw [<-e1,<-e2];rw [h0] at k1;refine ⟨?_,hb.ini,k2,hb.leave,hb.moves,(λ h=>by cases h),hb.hl⟩;rw [show a+(([]:List SyAct).length+b.leave.length+mvA b.moves)+l.length=a+(l.length+b.leave.length+mvA b.moves) from by simp;omega] at k1;exact k1
  ·split at e
   ·unfold leaveS at e
    split at e
    ·obtain ⟨_,_,w⟩:=wrong_bad (α:=SyB×Bool) s.ts;rw [w] at e;cases e
    ·rename_i hh;have h0:=hb.hl (by simpa using hh);obtain ⟨l,s1,a1,e⟩:=Rs.some e;obtain ⟨k1,k2⟩:=block_st h.drop a1;injection e with e1 e2;rw [<-e1,<-e2];rw [h0] at k1;refine ⟨?_,hb.ini,hb.enter,k2,hb.moves,hb.he,(λ h=>by cases h)⟩;rw [show a+(b.enter.length+([]:List SyAct).length+mvA b.moves)+l.length=a+(b.enter.length+l.length+mvA b.moves) from by simp;omega] at k1;exact k1
   ·unfold movS at e
    split at e
    ·injection e with e1 e2;rw [<-e1,<-e2];exact ⟨h,hb⟩
    ·rename_i h0;obtain ⟨x,s1,a1,e⟩:=Rs.some e;obtain ⟨k1,k2⟩:=move_st h h0 a1;injection e with e1 e2;rw [<-e1,<-e2];refine ⟨?_,hb.ini,hb.enter,hb.leave,λ q hq=>?_,hb.he,hb.hl⟩
     ·show St M s1 n (m+(b.moves++[x]).length) (a+(b.enter.length+b.leave.length+mvA (b.moves++[x])));rw [List.length_append,mvA_app,show a+(b.enter.length+b.leave.length+(mvA b.moves+x.acts.length))=a+(b.enter.length+b.leave.length+mvA b.moves)+x.acts.length from by omega];exact k1
     ·rcases List.mem_append.1 hq with hq|hq
      ·exact hb.moves q hq
      ·obtain rfl:q=x:=by simpa using hq
       exact k2
def NdSt (M d:Nat) (nd:Ss->Rs SyNode):Prop:=∀(s:Ss) (x:SyNode) (s':Ss) (n m a:Nat),St M s n m a->nodeK s.ts≠0->nd s=.ok x s'->St M s' (n+cN x) (m+cM x) (a+cA x)/\GdNM M d x
theorem bodyz_st {d:Nat} {nd:Ss->Rs SyNode} (ih:NdSt M d nd) {s s':Ss} {z:SyB×List SyNode} {n m a:Nat} (h:St M s n m a) (e:bodyR nd s=.ok z s') :
  St M s' (n+cNs z.2) (m+(z.1.moves.length+cMs z.2)) (a+(z.1.enter.length+z.1.leave.length+mvA z.1.moves+cAs z.2))/\BSt M z.1/\∀x∈z.2,GdNM M d x:=by
 obtain ⟨b,s1,a1,e⟩:=Rs.some e;obtain ⟨l,s2,a2,e⟩:=Rs.some e;injection e with e1 e2;have hb:BSv M n m a b s1:=It_inv (BSv M n m a) clause_st ⟨h,.inl rfl,(λ x hx=>by cases hx),(λ x hx=>by cases hx),(λ x hx=>by cases hx),(λ _=>rfl),(λ _=>rfl)⟩ a1;obtain ⟨hb,hg⟩:=hb
 have hk:=It_inv (stp:=kidS nd) (λ (l:List SyNode) s=>St M s (n+cNs l) (m+b.moves.length+cMs l) (a+(b.enter.length+b.leave.length+mvA b.moves)+cAs l)/\∀x∈l,GdNM M d x) (λ x s y s' hi e=>by
  unfold kidS at e
  split at e
  ·injection e with e1 e2;rw [<-e1,<-e2];exact hi
  ·rename_i h0;obtain ⟨w,s3,a3,e⟩:=Rs.some e;injection e with e1 e2;obtain ⟨k1,k2⟩:=ih _ _ _ _ _ _ hi.1 h0 a3;rw [<-e1,<-e2];refine ⟨?_,λ q hq=>?_⟩
   ·rw [cNs_app,cMs_app,cAs_app,cNs,cMs,cAs,cNs,cMs,cAs,<-Nat.add_assoc n,<-Nat.add_assoc (m+b.moves.length),<-Nat.add_assoc (a+(b.enter.length+b.leave.length+mvA b.moves))];exact k1
   ·rcases List.mem_append.1 hq with hq|hq
    ·exact hi.2 q hq
    ·obtain rfl:q=w:=by simpa using hq
     exact k2) ⟨hb,λ x hx=>by cases hx⟩ a2
 rw [<-e1,<-e2];refine ⟨?_,hg,hk.2⟩;have:=hk.1;rw [Nat.add_assoc m,Nat.add_assoc a] at this;exact this
theorem named_st {d:Nat} {s s':Ss} {x:List UInt8×Int} {n m a:Nat} (h:St M s n m a) (e:namedR d s=.ok x s'):St M s' (n+1) m a/\isNm x.1=true:=by
 obtain ⟨ts,sn,sm,sa⟩:=s;unfold namedR at e
 cases ts with
 |nil=>cases e
 |cons t r =>
  simp only at e
  split at e
  ·split at e
   ·cases e
   ·rename_i h64
    split at e
    ·cases e
    ·injection e with e1 e2;obtain ⟨k1,k2,k3,k4,k5,k6,k7⟩:=h;simp only at k2;rw [<-e1,<-e2];exact ⟨⟨LM.cons k1,by show sn+1=_;omega,k3,k4,by omega,k6,k7⟩,(k1.1 t (List.mem_cons_self)).1 (by assumption)⟩
  ·obtain ⟨_,_,w⟩:=wrong_bad (α:=List UInt8×Int) (t::r);rw [w] at e;cases e
theorem node_st:∀d,NdSt M d (nodeR d)
 |0,s,x,s',n,m,a,h,h0,e=>by
  unfold nodeR at e;obtain ⟨_,_,_,e⟩:=Rs.some e;cases e
 |d+1,s,x,s',n,m,a,h,h0,e=>by
  unfold nodeR at e;obtain ⟨y,s1,a1,e⟩:=Rs.some e;obtain ⟨k1,k2⟩:=named_st h.drop a1;have hk:=nodeK_le s.ts
  split at e
  ·rename_i h3;unfold histR at e;obtain ⟨_,s2,a2,e⟩:=Rs.some e;obtain ⟨w,s3,a3,e⟩:=Rs.some e;obtain ⟨_,s4,a4,e⟩:=Rs.some e;injection e with e1 e2;obtain ⟨k3,k4⟩:=name_st (must_st k1 a2) a3;rw [<-e1,<-e2];refine ⟨?_,k2,.inl ⟨?_,k4,rfl,rfl,rfl,rfl,rfl⟩⟩
   ·rw [cN,cM,cA,cNs,cMs,cAs];exact must_st k3 a4
   ·show ((nodeK s.ts:Nat):Int)=3∨((nodeK s.ts:Nat):Int)=4;omega
  ·rename_i h3;unfold innerR at e;obtain ⟨_,s2,a2,e⟩:=Rs.some e;obtain ⟨z,s3,a3,e⟩:=Rs.some e;obtain ⟨_,s4,a4,e⟩:=Rs.some e;injection e with e1 e2;obtain ⟨k3,k4,k5⟩:=bodyz_st (node_st d) (must_st k1 a2) a3;rw [<-e1,<-e2];unfold nodeOf;refine ⟨?_,k2,.inr ⟨?_,rfl,k4.ini,k4.enter,k4.leave,k4.moves,k5⟩⟩
   ·rw [cN,cM,cA,<-Nat.add_assoc n];exact must_st k3 a4
   ·show ((nodeK s.ts:Nat):Int)=1∨((nodeK s.ts:Nat):Int)=2;omega
theorem var_st {l:List SyVar} {s s':Ss} {y:List SyVar×Bool} {n m a:Nat} (h:St M s n m a/\(∀v∈l,isNm v.name=true/\-9223372036854775808<v.num/\v.num<=9223372036854775807)/\l.length<=16) (e:varS l s=.ok y s') :
  St M s' n m a/\(∀v∈y.1,isNm v.name=true/\-9223372036854775808<v.num/\v.num<=9223372036854775807)/\y.1.length<=16:=by
 unfold varS at e
 split at e
 ·obtain ⟨x,s1,a1,e⟩:=Rs.some e;obtain ⟨_,s2,a2,e⟩:=Rs.some e;obtain ⟨v,s3,a3,e⟩:=Rs.some e;obtain ⟨_,s4,a4,e⟩:=Rs.some e;injection e with e1 e2
  have b1:St M s1 n m a/\isNm x.1=true/\l.length≠16:=by
   have hd:=h.1.drop;obtain ⟨ts,sn,sm,sa⟩:=s
   cases ts with
   |nil=>cases a1
   |cons t r =>
    cases r with
    |nil=>cases a1
    |cons t r =>
     unfold vnameR at a1;change (if t.kind=1 then _ else _)=_ at a1
     split at a1
     ·split at a1
      ·cases a1
      ·rename_i h16;injection a1 with c1 c2;rw [<-c1,<-c2];exact ⟨⟨LM.cons hd.1,hd.2⟩,(hd.1.1 t (List.mem_cons_self)).1 (by assumption),h16⟩
     ·obtain ⟨_,_,w⟩:=wrong_bad (α:=List UInt8×Int) (t::r);have a1':(wrongR (t::r):Rs (List UInt8×Int))=_:=a1;rw [w] at a1';cases a1'
  have b2:=must_st b1.1 a2
  have b3:St M s3 n m a/\-9223372036854775808<v/\v<=9223372036854775807:=by
   unfold vnumR at a3
   split at a3
   ·obtain ⟨u,s5,c1,c2⟩:=Rs.some a3;injection c2 with c3 c4;obtain ⟨d1,d2⟩:=num_st b2.drop c1;rw [<-c3,<-c4];exact ⟨d1,by omega,by omega⟩
   ·obtain ⟨d1,d2⟩:=num_st b2 a3;exact ⟨d1,by omega,by omega⟩
  rw [<-e1,<-e2];refine ⟨must_st b3.1 a4,λ q hq=>?_,?_⟩
  ·rcases List.mem_append.1 hq with hq|hq
   ·exact h.2.1 q hq
   ·obtain rfl:q=⟨x.1,v,x.2⟩:=by simpa using hq
    exact ⟨b1.2.1,b3.2⟩
  ·show (l++[_]).length<=16;rw [List.length_append,List.length_singleton];have:=h.2.2;have:=b1.2.2;omega
 ·injection e with e1 e2;rw [<-e1,<-e2];exact h
theorem read_goodM {ts:List Tk} (ht:LM M ts) {c:SyChart} {s':Ss} (e:syR ts=.ok c s'):c.goodM M:=by
 have h:St M ⟨ts,0,0,0⟩ 0 0 0:=⟨ht,rfl,rfl,rfl,by omega,by omega,by omega⟩
 unfold syR chartR at e;obtain ⟨_,s1,a1,e⟩:=Rs.some e;obtain ⟨x,s2,a2,e⟩:=Rs.some e;obtain ⟨_,s3,a3,e⟩:=Rs.some e;obtain ⟨l,s4,a4,e⟩:=Rs.some e;obtain ⟨z,s5,a5,e⟩:=Rs.some e;obtain ⟨_,s6,a6,e⟩:=Rs.some e;obtain ⟨k1,k2⟩:=named_st (must_st h a1) a2;have hv:=It_inv (stp:=varS) (λ (l:List SyVar) s=>St M s (0+1) 0 0/\(∀v∈l,isNm v.name=true/\-9223372036854775808<v.num/\v.num<=9223372036854775807)/\l.length<=16) (λ x s y s' hi e=>var_st hi e) ⟨must_st k1 a3,(λ v hv=>by cases hv),by simp⟩ a4;obtain ⟨k3,k4,k5⟩:=bodyz_st (node_st 11) hv.1 a5;have k6:=must_st k3 a6;unfold endR at e
 split at e
 ·injection e with e1 e2;rw [<-e1];obtain ⟨_,_,_,_,l1,l2,l3⟩:=k6;refine ⟨λ v hv'=>(hv.2.1 v hv').1,λ v hv'=>(hv.2.1 v hv').2,hv.2.2,⟨_,_,_,_,_,_,_,_,rfl⟩,⟨k2,.inr ⟨.inl rfl,rfl,k4.ini,k4.enter,k4.leave,k4.moves,k5⟩⟩,?_,?_,?_⟩
  ·show cN (nodeOf 1 x z)<=64;unfold nodeOf;rw [cN];omega
  ·show cM (nodeOf 1 x z)<=200;unfold nodeOf;rw [cM];omega
  ·show cA (nodeOf 1 x z)<=400;unfold nodeOf;rw [cA];omega
 ·obtain ⟨_,_,w⟩:=wrong_bad (α:=SyChart) s6.ts;rw [w] at e;cases e
theorem syF_goodM {l:List UInt8} {c:SyChart} {s':Ss} (e:syF l=.ok c s'):c.goodM l.length:=by
 unfold syF at e
 split at e
 ·exact read_goodM (scF_lex l) e
 ·cases e
end Sz
end Go.Proofs.YtpgeidpfhakgaaaGreatDoor
namespace Go.Proofs.YtpgeidpfhakgaaaGreatDoor
theorem goodM_A {M:Nat} {a:SyAct} (h:a.goodM M):a.good:=⟨h.kind,h.name,h.raise,λ c=>by
 obtain ⟨x,h1,h2⟩:=h.value c
 exact ⟨x,h1,h2.1⟩⟩
theorem goodM_M {M:Nat} {m:SyMove} (h:m.goodM M):m.good:=⟨h.kind,h.event,h.wait,h.guarded,λ x hx=>(h.guard x hx).1,λ a ha=>goodM_A (h.acts a ha),h.targets⟩
theorem goodM_N {M:Nat}:∀(d:Nat) (x:SyNode),GdNM M d x->GdN d x
 |0,x,h=>by rw [GdNM] at h;exact h.elim
 |d+1,.mk k nm ini dft en le mo ks p,h=>by
  rw [GdNM] at h;rw [GdN];obtain ⟨h1,h2⟩:=h;refine ⟨h1,?_⟩;rcases h2 with h2|⟨a1,a2,a3,a4,a5,a6,a7⟩
  ·exact .inl h2
  ·exact .inr ⟨a1,a2,a3,λ a ha=>goodM_A (a4 a ha),λ a ha=>goodM_A (a5 a ha),λ a ha=>goodM_M (a6 a ha),λ x hx=>goodM_N d x (a7 x hx)⟩
theorem goodM_C {M:Nat} {c:SyChart} (h:c.goodM M):c.good:=⟨h.names,h.nums,h.many,h.kind,goodM_N 12 c.root h.node,h.nodes,h.moves,h.acts⟩
theorem syF_good {l:List UInt8} {c:SyChart} {s':Ss} (e:syF l=.ok c s'):c.good:=goodM_C (Sz.syF_goodM e)
end Go.Proofs.YtpgeidpfhakgaaaGreatDoor
namespace Go.Proofs.YtpgeidpfhakgaaaGreatDoor
open Go.RowKit
def WB (w:World) (B b:Nat) (l:List UInt8) (n d:Nat):Prop :=
 B<=b/\∃p v,(p=Value.pointer none∨p=.pointer (some ⟨b,0,none⟩))/\w.heap[b]?=some (.cells #[p,v,.int .i64 (n:Int),.int .i64 (d:Int)] 210 (0,0)) /\
  w.ownsRow B 5 1 v l.length (Lib.byteCells l)/\v.ownBlock≠some b
theorem heap_lt {w:World} {b:Nat} {o:Obj} (h:w.heap[b]?=some o):b<w.heap.size:=by
 rcases Nat.lt_or_ge b w.heap.size with hlt|hge
 ·exact hlt
 ·rw [Array.getElem?_eq_none hge] at h;cases h
section
variable {w w':World} {B b:Nat} {l:List UInt8} {n d:Nat}
theorem WB.lt (h:WB w B b l n d):b<w.heap.size:=by
 obtain ⟨_,p,v,_,hb,_⟩:=h;exact heap_lt hb
theorem WB.c2 (h:WB w B b l n d):w.cell? ⟨b,2,none⟩=some (.int .i64 (n:Int)):=by
 obtain ⟨_,p,v,_,hb,_⟩:=h;rw [Lib.cell_of_heap hb];rfl
theorem WB.c3 (h:WB w B b l n d):w.cell? ⟨b,3,none⟩=some (.int .i64 (d:Int)):=by
 obtain ⟨_,p,v,_,hb,_⟩:=h;rw [Lib.cell_of_heap hb];rfl
theorem WB.fr (h:WB w B b l n d) (i:Nat):w.frozen? ⟨b,i,none⟩=false:=by
 obtain ⟨_,p,v,_,hb,_⟩:=h;exact Lib.frozen_of_heap hb i
theorem owns_set {w:World} {B e b i:Nat} {v x:Value} {m:Nat} {xs:List Value} (h:w.ownsRow B e 1 v m xs) (hne:v.ownBlock≠some b):(w.setCell ⟨b,i,none⟩ x).ownsRow B e 1 v m xs :=
 h.kept (row:=some b) ⟨rfl,rfl,rfl,by simp [World.setCell],λ k _ hk=>Below.heap_setCell _ _ _ _ (λ e=>hk (by simp [e]))⟩ (Or.inr hne)
theorem WB.set2 (h:WB w B b l n d) (n':Nat):WB (w.setCell ⟨b,2,none⟩ (.int .i64 (n':Int))) B b l n' d:=by
 obtain ⟨hB,p,v,hp,hb,ho,hne⟩:=h;exact ⟨hB,p,v,hp,heap_setCell_same w b 2 _ _ _ hb,owns_set ho hne,hne⟩
theorem WB.set3 (h:WB w B b l n d) (d':Nat):WB (w.setCell ⟨b,3,none⟩ (.int .i64 (d':Int))) B b l n d':=by
 obtain ⟨hB,p,v,hp,hb,ho,hne⟩:=h;exact ⟨hB,p,v,hp,heap_setCell_same w b 3 _ _ _ hb,owns_set ho hne,hne⟩
theorem WB.used (h:WB w B b l n d):WB (w.setCell ⟨b,0,none⟩ (.pointer (some ⟨b,0,none⟩))) B b l n d:=by
 obtain ⟨hB,p,v,hp,hb,ho,hne⟩:=h;exact ⟨hB,_,v,.inr rfl,heap_setCell_same w b 0 _ _ _ hb,owns_set ho hne,hne⟩
theorem WB.drew (h:WB w B b l n d):WB w.drew B b l n d:=h
theorem WB.alloc (h:WB w B b l n d) (o:Obj):WB (w.alloc o) B b l n d:=by
 have hlt:=h.lt;obtain ⟨hB,p,v,hp,hb,ho,hne⟩:=h;exact ⟨hB,p,v,hp,(Below.heap_alloc w o b hlt).trans hb,ho.alloc _,hne⟩
theorem WB.below {u:World} (h:WB w B b l n d) (hb':Below w.heap.size w u):WB u B b l n d:=by
 have hlt:=h.lt;obtain ⟨hB,p,v,hp,hb,ho,hne⟩:=h;refine ⟨hB,p,v,hp,(hb'.block b hlt).trans hb,?_,hne⟩;refine ⟨ho.1,?_⟩;rcases ho.2 with hh|⟨g,cap,cur,h1,h2,h3,h4⟩
 ·exact .inl hh
 ·exact .inr ⟨g,cap,cur,h1,h2,(hb'.block g (heap_lt h3)).trans h3,h4⟩
end
theorem WB.put {w:World} {B b:Nat} {l':List UInt8} {n d:Nat} {p v v':Value} (hB:B<=b) (hp:p=Value.pointer none∨p=.pointer (some ⟨b,0,none⟩)) (hb:w.heap[b]?=some (.cells #[p,v,.int .i64 (n:Int),.int .i64 (d:Int)] 210 (0,0)))
  (ho:w.ownsRow B 5 1 v' l'.length (Lib.byteCells l')):WB (w.setCell ⟨b,1,none⟩ v') B b l' n d:=by
 have hne:=Lib.ownBlock_ne ho hb (by decide);exact ⟨hB,p,v',hp,heap_setCell_same w b 1 _ _ _ hb,owns_set ho hne,hne⟩
structure Wk (B b:Nat) (w w':World):Prop where
 below:Below B w w'
 keep:∀(g:Nat) (cs:Array Value) (T:TypeId) (fr:Nat×Nat),w.heap[g]?=some (.cells cs T fr)->g≠b->T≠5->w'.heap[g]?=some (.cells cs T fr)
section
variable {B b:Nat} {w w' w'':World}
theorem Wk.refl (B b:Nat) (w:World):Wk B b w w:=⟨b_ B w,λ _ _ _ _ h _ _=>h⟩
theorem Wk.trans (h:Wk B b w w') (h':Wk B b w' w''):Wk B b w w'':=⟨h.below.trans h'.below,λ g cs T fr hg hn ht=>h'.keep g cs T fr (h.keep g cs T fr hg hn ht) hn ht⟩
theorem Wk.of (hB:B<=w.heap.size) (h:Below w.heap.size w w'):Wk B b w w':=⟨h.mono hB,λ _ _ _ _ hg _ _=>(h.block _ (heap_lt hg)).trans hg⟩
theorem Wk.set (hB:B<=b) (i:Nat) (x:Value):Wk B b w (w.setCell ⟨b,i,none⟩ x):=⟨(b_ B w).setCell (p:=⟨b,i,none⟩) hB x,λ g _ _ _ hg hn _=>(Below.heap_setCell w ⟨b,i,none⟩ x g hn).trans hg⟩
theorem Wk.alloc (hB:B<=w.heap.size) (o:Obj):Wk B b w (w.alloc o):=Wk.of hB ((b_ _ w).alloc (n_ _) o)
theorem Wk.size (h:Wk B b w w'):w.heap.size<=w'.heap.size:=h.below.size
end
theorem WB.new (w:World):WB (w.alloc (.cells #[.pointer none,.slice none 0 0,.int .i64 0,.int .i64 0] 210)) w.heap.size w.heap.size [] 0 0 :=
 ⟨n_ _,_,_,.inl rfl,heap_alloc_new w _,World.ownsRow_nil _ _ _ _,by simp [Value.ownBlock]⟩
set_option maxRecDepth 100000 in
theorem check_any (w:World) (B b:Nat) (l:List UInt8) (n d:Nat) (h:WB w B b l n d) :
  Calls Tryz.prog 200 #[.pointer (some ⟨b,0,none⟩)] w λ e w'=>e=.returned (.tuple #[])/\WB w' B b l n d/\Wk B b w w':=by
 have HW:=h_ h;obtain ⟨hB,p,v,hp,hb,_,_⟩:=h
 have h0:w.cell? ⟨b,0,none⟩=some p:=by rw [Lib.cell_of_heap hb];rfl
 have hfr:=HW.out.fr 0
 have hsh:w.shape? b=some (210,4):=by simp [World.shape?,hb]
 obtain ⟨j,hj,hjs⟩:=Option.map_eq_some_iff.1 (show (Tryz.prog.info? 67).map (·.size)=some 2 by kernel_rfl)
 have HL:liesAt Tryz.prog Tryz.prog.depth 210 (4 / Tryz.prog.cellsOf 210) 0 67 1=true:=by kernel_rfl
 clear hb;rcases hp with rfl|rfl
 ·go_enter Tryz.func200,Tryz.ntmps200
  go_wp2
  rw [Lib.run_to_unsafe w ⟨b,0,none⟩ Tryz.underlying64 Tryz.underlying245 hj (by rw [hjs];decide) hsh (Nat.zero_lt_succ 3)];simp only [Result.andThen];rw [Oper.upon_value]
  go_wp2
  rw [run_callFunc_extern Tryz.func226 (by kernel_rfl) (by kernel_rfl) (by kernel_rfl) (e:=Extern.AbiNoEscape.same) (by kernel_rfl)];rw [Lib.run_noEscape];simp only [Result.andThen];rw [Oper.upon_value]
  go_wp2
  rw [Lib.run_from_unsafe w ⟨b,0,none⟩ Tryz.underlying245 Tryz.underlying64 hj hsh HL];simp only [Result.andThen];rw [Oper.upon_value]
  go_wp2
  go_end0;exact ⟨rfl,HW.out.used,Wk.set hB 0 _⟩
 ·go_enter Tryz.func200,Tryz.ntmps200
  go_wp2
  rw [Lib.run_neq_ptr_same w _ Tryz.underlying64 hj]
  go_wp2
  go_end0;exact ⟨rfl,HW.out,Wk.refl B b w⟩
set_option maxRecDepth 100000 in
theorem blen_any (w:World) (B b:Nat) (l:List UInt8) (n d:Nat) (h:WB w B b l n d) :
  Calls Tryz.prog 31 #[.pointer (some ⟨b,0,none⟩)] w λ e w'=>e=.returned (.int .i64 l.length)/\w'=w:=by
 obtain ⟨hB,p,v,hp,hb,hown,_⟩:=h
 obtain ⟨ao,cap,rfl⟩:∃ao cap,v=.slice ao l.length cap:=by
  rcases hown.2 with ⟨hv,h0⟩|⟨g,cap,cur,hv,_⟩
  ·exact ⟨none,0,by rw [hv,h0]⟩
  ·exact ⟨_,_,hv⟩
 have c1:w.cell? ⟨b,1,none⟩=some (.slice ao l.length cap):=by rw [Lib.cell_of_heap hb];rfl
 clear hb hown hp;go_enter Tryz.func31,Tryz.ntmps31
 go_wp2
 go_ret;exact ⟨rfl,rfl⟩
set_option maxRecDepth 100000 in
theorem bwrite_any (w:World) (B b:Nat) (l:List UInt8) (n d:Nat) (s:ByteArray) (h:WB w B b l n d) (hlen:l.length+s.size<=140737488355328) (hBw:B<=w.heap.size) :
  Calls Tryz.prog 168 #[.pointer (some ⟨b,0,none⟩),.string s] w λ e w'=>e=.returned (.tuple #[.int .i64 s.size,.nilIface])/\WB w' B b (l++s.data.toList) n d/\Wk B b w w':=by
 obtain ⟨i0,hi,hz0,hz1,hz2⟩:=info_parts (show (Tryz.prog.info? 5).map (λ i=>(i.zero,i.size,i.bytes))=some (some (.int .u8 0),1,1) by kernel_rfl);have HC:=h_ (check_any w B b l n d h);clear h;go_enter Tryz.func168,Tryz.ntmps168;go_wp2_with (go_at_call 200;refine HC.out.mono ?_);rintro e w1 ⟨rfl,h1,hb1⟩;obtain ⟨hB,p,v,hp,hbk,hown,hne⟩:=h1
 have c0:w1.cell? ⟨b,0,none⟩=some p:=by rw [Lib.cell_of_heap hbk];rfl
 have c1:w1.cell? ⟨b,1,none⟩=some v:=by rw [Lib.cell_of_heap hbk];rfl
 go_wp2_with (at_builtin;refine Lib.wpList_append_own_string _ rfl _ _ 65 9 rfl B 5 i0 Tryz.underlying65 Tryz.underlying9 hi hz0 hz1 hz2 _ _ _ rfl hown s rfl ?c3 ?c4 ?c5 ?_)
 case c3=>unfold maxLen;omega
 case c4=>omega
 case c5=>have:=hb1.size;omega
 intro v' w2 hown' hgrow _;have hlt:b<w1.heap.size:=heap_lt hbk
 have hb2:w2.heap[b]?=some (.cells #[p,v,.int .i64 (n:Int),.int .i64 (d:Int)] 210 (0,0)):=by
  rw [hgrow.block b hlt (λ e=>hne e.symm)];exact hbk
 have d0:w2.cell? ⟨b,0,none⟩=some p:=by rw [Lib.cell_of_heap hb2];rfl
 have d1:w2.cell? ⟨b,1,none⟩=some v:=by rw [Lib.cell_of_heap hb2];rfl
 have f1:w2.frozen? ⟨b,1,none⟩=false:=Lib.frozen_of_heap hb2 1
 obtain ⟨ao,n',cap,rfl⟩:∃ao n' cap,v'=.slice ao n' cap:=by
  rcases hown'.2 with ⟨hv,_⟩|⟨g,cap,cur,hv,_⟩
  ·exact ⟨_,_,_,hv⟩
  ·exact ⟨_,_,_,hv⟩
 go_wp2
 go_ret2;refine ⟨rfl,?_,?_⟩
 ·refine WB.put hB hp hb2 ?_;rw [Lib.byteCells_append,List.length_append];exact hown'
 ·refine hb1.trans (Wk.trans ⟨(b_ B w1).grown hgrow (by have:=hb1.size;omega) (λ k hk=>(hown.lt k hk).1),λ g cs T fr hg hn ht=>?_⟩ (Wk.set hB 1 _));rw [hgrow.block g (heap_lt hg) (λ e=>?_)]
  ·exact hg
  ·rcases hown.2 with ⟨rfl,_⟩|⟨g',cap',cur,rfl,_,hg',_⟩
   ·simp [Value.ownBlock] at e
   ·simp only [Value.ownBlock,j_] at e;subst e;rw [hg'] at hg;injection hg with hg;injection hg with _ hT _;exact ht hT.symm
set_option maxRecDepth 100000 in
theorem bstring_any (w:World) (B b:Nat) (l:List UInt8) (n d:Nat) (h:WB w B b l n d) (h0:l≠[]) :
  Calls Tryz.prog 32 #[.pointer (some ⟨b,0,none⟩)] w λ e w'=>e=.returned (.string ⟨l.toArray⟩)/\Below B w w':=by
 obtain ⟨hB,p,v,hp,hbk,hown,hne⟩:=h
 have hl0:l.length≠0:=by simpa using h0
 obtain ⟨g,cap,cur,rfl,hbg,hg,hnc,hcm,hcs,htake⟩:∃g cap cur,v=.slice (some ⟨g,0,none⟩) l.length cap/\B<=g/\w.heap[g]?=some (.cells cur 5 (0,0))/\l.length<=cap/\cap<=maxLen/\cur.size=cap*1/\cur.toList.take (l.length*1)=Lib.byteCells l:=by
  rcases hown.2 with ⟨_,hz⟩|⟨g,cap,cur,hv,r⟩
  ·exact absurd hz hl0
  ·exact ⟨g,cap,cur,hv,r⟩
 have c1:w.drew.cell? ⟨b,1,none⟩=some (.slice (some ⟨g,0,none⟩) l.length cap):=by
  have:w.drew.heap[b]?=some (.cells #[p,.slice (some ⟨g,0,none⟩) l.length cap,.int .i64 (n:Int),.int .i64 (d:Int)] 210 (0,0)):=hbk;rw [Lib.cell_of_heap this];rfl
 have hSD:(Builtin.unsafeSliceData_ #[65] 109 #[.slice (some ⟨g,0,none⟩) l.length cap]).run Tryz.prog w.drew=.ok (.pointer (some ⟨g,0,none⟩)) w.drew :=
  Lib.run_unsafeSliceData_row _ _ _ _ _ _ (by omega)
 have hUS:(Builtin.unsafeString_ #[109,3] 9 #[.pointer (some ⟨g,0,none⟩),.int .i64 l.length]).run Tryz.prog w.drew=.ok (.string ⟨l.toArray⟩) (w.drew.freeze ⟨g,0,none⟩ l.length):=by
  refine Lib.run_unsafeString_row w.drew 109 3 9 5 Tryz.underlying109 (by kernel_rfl) g cur.size (by have hg':w.drew.heap[g]?=some (.cells cur 5 (0,0)):=hg;simp [World.shape?,hg']) l h0 (by omega) (by unfold maxLen at hcm;omega) ?_;intro j x hx;have:=hown.cells (g:=g) rfl j (.int .u8 x.toNat) (by simp [Lib.byteCells,hx]);exact this
 clear hbk hown hg htake;go_enter Tryz.func32,Tryz.ntmps32
 go_wp2
 go_region
 all_goals (go_wp2;go_ret;exact ⟨rfl,Lib.below_freeze (Below.drew (b_ B w)) (p:=⟨g,0,none⟩) hbg _⟩)
end Go.Proofs.YtpgeidpfhakgaaaGreatDoor
namespace Go.Proofs.YtpgeidpfhakgaaaGreatDoor
open Go.RowKit
def flat (ss:List ByteArray):List UInt8:=(ss.map λ s=>s.data.toList).flatten
theorem flat_nil:flat []=[]:=rfl
theorem flat_cons (s:ByteArray) (ss:List ByteArray):flat (s::ss)=s.data.toList++flat ss:=by simp [flat]
def StR (w:World) (g:Nat) (ss:List ByteArray):Prop:=w.heap[g]?=some (.cells (ss.map λ s=>Value.string s).toArray 9 (0,0))
theorem StR.cell {w:World} {g:Nat} {ss:List ByteArray} (h:StR w g ss) {i:Nat} {s:ByteArray} (hi:ss[i]?=some s):w.cell? ⟨g,i,none⟩=some (.string s):=by
 rw [cell_of_row w g i _ _ _ h];simp [hi]
theorem StR.wk {B b:Nat} {w w':World} {g:Nat} {ss:List ByteArray} (h:StR w g ss) (hk:Wk B b w w') (hn:g≠b):StR w' g ss:=hk.keep _ _ _ _ h hn (by decide)
theorem XpB.wk {B b:Nat} {w w':World} {g:Nat} {v:EV} (h:XpB w g v) (hk:Wk B b w w') (hn:g≠b):XpB w' g v:=hk.keep _ _ _ _ h hn (by decide)
theorem drop_flat {ss:List ByteArray} {i:Nat} {s:ByteArray} (h:ss[i]?=some s):flat (ss.take (i+1))=flat (ss.take i)++s.data.toList:=by
 have hl:=(List.getElem?_eq_some_iff.1 h)
 obtain ⟨hl,he⟩:=hl;rw [List.take_add_one,h];simp [flat]
theorem flat_le {ss:List ByteArray} {M:Nat} (h:∀s∈ss,s.size<=M) (i:Nat):(flat (ss.take i)).length<=i*M:=by
 induction i with
 |zero=>simp [flat]
 |succ i ih =>
  cases hs:ss[i]? with
  |none =>
   rw [List.getElem?_eq_none_iff] at hs;rw [List.take_of_length_le (by omega)];rw [List.take_of_length_le hs] at ih;rw [Nat.succ_mul];omega
  |some s =>
   rw [drop_flat hs,List.length_append];have h1:=h s (List.mem_of_getElem? hs);have h2:s.data.toList.length=s.size:=rfl;rw [Nat.succ_mul];omega
theorem put_any (w:World) (B b g m:Nat) (l:List UInt8) (n d:Nat) (ss:List ByteArray) (h:WB w B b l n d) (hs:StR w g ss) (hm:ss.length=m) (hg:g≠b) (hM:∀s∈ss,s.size<=1000000000) (h3:m<=3) (hl:l.length<=1000000000) (hBw:B<=w.heap.size) :
  Calls Tryz.prog 210 #[.pointer (some ⟨b,0,none⟩),.slice (some ⟨g,0,none⟩) m m] w λ e w'=>e=.returned (.bool (decide ((l++flat ss).length<=16384)))/\WB w' B b (l++flat ss) n d/\Wk B b w w':=by
 have HW:=h_ h;have HS:=h_ hs;have HM:=h_ hm;have HB:=h_ hM;have HFL:=h_ (λ i=>flat_le hM i)
 obtain ⟨R,hR⟩:∃R:Bool,decide ((l++flat ss).length<=16384)=R:=⟨_,rfl⟩
 rw [hR];have HR:=h_ hR;clear h hs hm hM hR;go_enter Tryz.func210,Tryz.ntmps210;go_wp2_with fail
 go_loopw [9] (λ iv wr=>∃i:Nat,i<=m/\iv=.int .i64 (i:Int)/\Hid (WB wr B b (l++flat (ss.take i)) n d)/\Hid (Wk B b w wr)) (λ iv _=>m-(intOf iv).toNat)
 case atStart=>exact ⟨0,Nat.zero_le _,rfl,by show WB _ _ _ _ _ _;rw [List.take_zero,flat_nil,List.append_nil];exact HW.out,Wk.refl _ _ _⟩
 case round =>
  obtain ⟨i,hi,rfl,HWB,HWK⟩:=hrel
  by_cases him:i<m
  ·have him':(i:Int)<m:=by omega
   obtain ⟨s,hsi⟩:∃s,ss[i]?=some s:=⟨_,List.getElem?_eq_getElem (by rw [HM.out];exact him)⟩
   have u1:=(HS.out.wk HWK.out hg).cell hsi;have hsz:=HB.out s (List.mem_of_getElem? hsi);have hfl:=HFL.out i;have HC:=h_ (bwrite_any wr B b _ n d s HWB.out (by rw [List.length_append];have:i*1000000000<=3*1000000000:=Nat.mul_le_mul_right _ (by omega);omega) (Nat.le_trans hBw HWK.out.size));rw [a_,<-drop_flat hsi] at HC;clear hsi hsz hfl;go_wp2_with fail;refine HC.out.mono ?_;rintro e w2 ⟨rfl,hw,hk⟩;have HWB2:=h_ hw;have HWK2:=h_ (HWK.out.trans hk);clear hw hk HC HWB HWK u1;go_wp2_with fail
   go_roundw
   case rel=>exact ⟨i+1,by omega,by go_num,HWB2,HWK2⟩
   case measure=>simp [intOf];omega
  ·have him':¬(i:Int)<m:=by omega
   have hmi:i=m:=by omega
   subst hmi
   have HWF:Hid (WB wr B b (l++flat ss) n d):=by
    have:=HWB.out;rw [List.take_of_length_le (by rw [HM.out];exact n_ _)] at this;exact this
   have HC:=h_ (blen_any wr B b _ n d HWF.out)
   obtain ⟨L,hL⟩:∃L,(l++flat ss).length=L:=⟨_,rfl⟩
   rw [hL] at HC HR;clear HWB hL;go_wp2_with fail;refine HC.out.mono ?_;rintro e w2 ⟨rfl,rfl⟩
   by_cases hc:L<=16384
   ·have hc':(L:Int)<=16384:=by omega
    obtain rfl:R=true:=by rw [<-HR.out,decide_eq_true hc]
    go_wp2_with fail;go_ret;exact ⟨rfl,HWF.out,HWK.out⟩
   ·have hc':¬(L:Int)<=16384:=by omega
    obtain rfl:R=false:=by rw [<-HR.out,decide_eq_false hc]
    go_wp2_with fail;go_ret;exact ⟨by first|rfl|(simp;omega),HWF.out,HWK.out⟩
theorem count_any (w:World) (B b:Nat) (l:List UInt8) (n d:Nat) (h:WB w B b l n d) (hn:n<=1000000000) :
  Calls Tryz.prog 208 #[.pointer (some ⟨b,0,none⟩)] w λ e w'=>e=.returned (.bool (decide (n+1<=16384)))/\WB w' B b l (n+1) d/\Wk B b w w':=by
 have HW:=h_ h;have r2:=h.c2;have f2:=h.fr 2
 have hn':(n:Int)<=1000000000:=by omega
 obtain ⟨W1,hW1⟩:∃W1,W1=w.setCell ⟨b,2,none⟩ (.int .i64 ((n:Int)+1)):=⟨_,rfl⟩
 have HW1:Hid (WB W1 B b l (n+1) d):=by
  have h1:=h.set2 (n+1);rw [Int.natCast_add] at h1;rw [hW1];exact h1
 have HK:Hid (Wk B b w W1):=by rw [hW1];exact Wk.set h.1 2 _
 have r3:=HW1.out.c2;rw [Int.natCast_add] at r3;replace r3:W1.cell? ⟨b,2,none⟩=some (.int .i64 ((n:Int)+1)):=r3
 obtain ⟨R,hR⟩:∃R:Bool,decide (n+1<=16384)=R:=⟨_,rfl⟩
 rw [hR];have HR:=h_ hR;clear h hR;go_enter Tryz.func208,Tryz.ntmps208;go_upto_region 2 with fail;rw [<-hW1];clear hW1
 by_cases hc:n+1<=16384
 ·have hc':(n:Int)+1<=16384:=by omega
  obtain rfl:R=true:=by rw [<-HR.out,decide_eq_true hc]
  go_wp2_with fail;go_ret;exact ⟨rfl,HW1.out,HK.out⟩
 ·have hc':¬(n:Int)+1<=16384:=by omega
  obtain rfl:R=false:=by rw [<-HR.out,decide_eq_false hc]
  go_wp2_with fail;go_ret;exact ⟨rfl,HW1.out,HK.out⟩
theorem StR.one (w:World) (s:ByteArray):StR (w.alloc (.cells #[.string s] 9)) w.heap.size [s]:=heap_alloc_new w _
theorem StR.three (w:World) (s t u:ByteArray):StR (w.alloc (.cells #[.string s,.string t,.string u] 9)) w.heap.size [s,t,u]:=heap_alloc_new w _
theorem enter_any (w:World) (B b:Nat) (l:List UInt8) (n d:Nat) (s:ByteArray) (h:WB w B b l n d) (hd:d<=1000000) (hs:s.size<=1000000000) (hl:l.length<=1000000000) (hBw:B<=w.heap.size) :
  Calls Tryz.prog 211 #[.pointer (some ⟨b,0,none⟩),.string s] w λ e w' =>
   (e=.returned (.bool (decide (d+1<=20/\(l++s.data.toList).length<=16384))))/\(d+1<=20->WB w' B b (l++s.data.toList) n (d+1))/\Wk B b w w':=by
 have HW:=h_ h;have r2:=h.c3;have f2:=h.fr 3
 have hd':(d:Int)<=1000000:=by omega
 obtain ⟨W1,hW1⟩:∃W1,W1=w.setCell ⟨b,3,none⟩ (.int .i64 ((d:Int)+1)):=⟨_,rfl⟩
 have HW1:Hid (WB W1 B b l n (d+1)):=by
  have h1:=h.set3 (d+1);rw [Int.natCast_add] at h1;rw [hW1];exact h1
 have HK:Hid (Wk B b w W1):=by rw [hW1];exact Wk.set h.1 3 _
 have r3:=HW1.out.c3;rw [Int.natCast_add] at r3;replace r3:W1.cell? ⟨b,3,none⟩=some (.int .i64 ((d:Int)+1)):=r3
 obtain ⟨g1,hg1⟩:∃g1,g1=W1.heap.size:=⟨_,rfl⟩
 obtain ⟨W2,hW2⟩:∃W2,W2=W1.alloc (.cells #[.string s] 9):=⟨_,rfl⟩
 have HK2:Hid (Wk B b w W2):=by rw [hW2];exact HK.out.trans (Wk.alloc (Nat.le_trans hBw HK.out.size) _)
 have HC:=h_ (put_any W2 B b g1 1 l n (d+1) [s] (by rw [hW2];exact HW1.out.alloc _) (by rw [hW2,hg1];exact StR.one W1 s) rfl (by have:=HW1.out.lt;omega) (λ t ht=>by rw [List.mem_singleton.1 ht];exact hs) (by omega) hl (Nat.le_trans hBw HK2.out.size));rw [flat_cons,flat_nil,List.append_nil] at HC
 obtain ⟨R,hR⟩:∃R:Bool,decide (d+1<=20/\(l++s.data.toList).length<=16384)=R:=⟨_,rfl⟩
 obtain ⟨R2,hR2⟩:∃R2:Bool,decide ((l++s.data.toList).length<=16384)=R2:=⟨_,rfl⟩
 rw [hR];rw [hR2] at HC;have HR:=h_ hR;have HR2:=h_ hR2;clear h hR hR2;go_enter Tryz.func211,Tryz.ntmps211;go_upto_region 2 with fail;rw [<-hW1];clear hW1
 by_cases hc:d+1<=20
 ·have hc':(d:Int)+1<=20:=by omega
  go_wp2_with fail;rw [<-hW2,<-hg1];clear hW2 hg1;refine HC.out.mono ?_;rintro e w2 ⟨rfl,hw,hk⟩;have HWB2:=h_ hw;have HWK2:=h_ (HK2.out.trans hk)
  obtain rfl:R=R2:=by rw [<-HR.out,<-HR2.out];simp [hc]
  have HC0:=h_ hc;clear hw hk HC hc;go_wp2_with fail;go_ret;exact ⟨rfl,λ _=>HWB2.out,HWK2.out⟩
 ·have hc':¬(d:Int)+1<=20:=by omega
  obtain rfl:R=false:=by rw [<-HR.out];simp [hc]
  have HC0:=h_ hc;clear hc;go_wp2_with fail;go_ret;exact ⟨rfl,λ hh=>absurd hh (by have:=HC0.out;omega),HK.out⟩
theorem leave_any (w:World) (B b:Nat) (l:List UInt8) (n d:Nat) (s:ByteArray) (h:WB w B b l n (d+1)) (hd:d<=1000000) (hs:s.size<=1000000000) (hl:l.length<=1000000000) (hBw:B<=w.heap.size) :
  Calls Tryz.prog 213 #[.pointer (some ⟨b,0,none⟩),.string s] w λ e w' =>
   (e=.returned (.bool (decide ((l++s.data.toList).length<=16384))))/\WB w' B b (l++s.data.toList) n d/\Wk B b w w':=by
 have HW:=h_ h;have r2:=h.c3;rw [Int.natCast_add] at r2;replace r2:w.cell? ⟨b,3,none⟩=some (.int .i64 ((d:Int)+1)):=r2;have f2:=h.fr 3
 have hd':(d:Int)<=1000000:=by omega
 obtain ⟨W1,hW1⟩:∃W1,W1=w.setCell ⟨b,3,none⟩ (.int .i64 (d:Int)):=⟨_,rfl⟩
 have HW1:Hid (WB W1 B b l n d):=by
  rw [hW1];exact h.set3 d
 have HK:Hid (Wk B b w W1):=by rw [hW1];exact Wk.set h.1 3 _
 obtain ⟨g1,hg1⟩:∃g1,g1=W1.heap.size:=⟨_,rfl⟩
 obtain ⟨W2,hW2⟩:∃W2,W2=W1.alloc (.cells #[.string s] 9):=⟨_,rfl⟩
 have HK2:Hid (Wk B b w W2):=by rw [hW2];exact HK.out.trans (Wk.alloc (Nat.le_trans hBw HK.out.size) _)
 have HC:=h_ (put_any W2 B b g1 1 l n d [s] (by rw [hW2];exact HW1.out.alloc _) (by rw [hW2,hg1];exact StR.one W1 s) rfl (by have:=HW1.out.lt;omega) (λ t ht=>by rw [List.mem_singleton.1 ht];exact hs) (by omega) hl (Nat.le_trans hBw HK2.out.size));rw [flat_cons,flat_nil,List.append_nil] at HC
 obtain ⟨R,hR⟩:∃R:Bool,decide ((l++s.data.toList).length<=16384)=R:=⟨_,rfl⟩
 rw [hR] at HC ⊢;clear h hR;go_enter Tryz.func213,Tryz.ntmps213;go_upto_region 2 with fail
 have e1:(d:Int)+1-1=d:=by omega
 try rw [e1]
 rw [<-hW1];clear hW1;go_wp2_with fail;rw [<-hW2,<-hg1];clear hW2 hg1;refine HC.out.mono ?_;rintro e w2 ⟨rfl,hw,hk⟩;have HWB2:=h_ hw;have HWK2:=h_ (HK2.out.trans hk);clear hw hk HC;go_wp2_with fail;go_ret;exact ⟨rfl,HWB2.out,HWK2.out⟩
def bnd (op:Int):Nat:=if rowOf op<6 then rowOf op+1 else 0
theorem op_cases (op:Int):(op=1∨op=2∨op=3∨op=4∨op=5∨op=6∨op=7∨op=8∨op=9∨op=10∨op=11∨op=12∨op=13)∨((op==1)=false/\(op==2)=false/\(op==3)=false/\(op==4)=false/\(op==5)=false/\(op==6)=false/\(op==7)=false/\(op==8)=false/\(op==9)=false/\(op==10)=false/\(op==11)=false/\(op==12)=false/\(op==13)=false/\bnd op=0):=by
 by_cases h:rowOf op<6
 ·exact .inl (row_cases h)
 ·refine .inr ?_
  have h':bnd op=0:=by unfold bnd;rw [if_neg h]
  unfold rowOf at h;simp only [beq_eq_false_iff_ne]
  refine ⟨?_,?_,?_,?_,?_,?_,?_,?_,?_,?_,?_,?_,?_,h'⟩ <;> (rintro rfl;exact h (by decide))
theorem binding_any (op:Int) (w:World):Calls Tryz.prog 214 #[.int .i64 op] w λ e w'=>e=.returned (.int .i64 (bnd op:Nat))/\w'=w:=by
 rcases op_cases op with (rfl|rfl|rfl|rfl|rfl|rfl|rfl|rfl|rfl|rfl|rfl|rfl|rfl)|⟨h1,h2,h3,h4,h5,h6,h7,h8,h9,h10,h11,h12,h13,h0⟩
 all_goals
  try rw [h0]
  go_enter Tryz.func214,Tryz.ntmps214;go_wp2_with fail;go_ret;exact ⟨rfl,rfl⟩
end Go.Proofs.YtpgeidpfhakgaaaGreatDoor
namespace Go.Proofs.YtpgeidpfhakgaaaGreatDoor
open Go.RowKit
theorem ok1 (n:Int) (S:ByteArray) (o:Int) (m:Nat):nodeOk 1 n S.data.toList o m=(((o==0)&&((m:Int)==0))&&(decide (0<=n)&&S.toList.isEmpty)):=by
 unfold nodeOk;rw [if_pos rfl,<-Lib.toList_data]
 rcases hS:S.toList with _|⟨c,r⟩ <;> by_cases h1:o=0 <;> by_cases h2:m=0 <;> by_cases h3:0<=n <;> simp [h1,h2,h3]
theorem ok2 (k n:Int) (S:ByteArray) (o:Int) (m:Nat) (hk:k=2∨k=3):nodeOk k n S.data.toList o m=(((o==0)&&((m:Int)==0))&&((n==0)&&isNm S.data.toList)):=by
 unfold nodeOk;rw [if_neg (by omega),if_pos hk]
 by_cases h1:o=0 <;> by_cases h2:m=0 <;> by_cases h3:n=0 <;> simp [h1,h2,h3]
theorem ok4 (n:Int) (S:ByteArray) (o:Int) (m:Nat):nodeOk 4 n S.data.toList o m=(((n==0)&&S.toList.isEmpty)&&(((o==14) || (o==15))&&((m:Int)==1))):=by
 unfold nodeOk;rw [if_neg (by decide),if_neg (by decide),if_pos rfl,<-Lib.toList_data]
 have e:((m:Int)==1)=decide (m=1):=by
  by_cases h:m=1
  ·simp [h]
  ·rw [decide_eq_false h,beq_eq_false_iff_ne];omega
 rw [e]
 rcases hS:S.toList with _|⟨c,r⟩ <;> by_cases h1:n=0 <;> by_cases h2:o=14 <;> by_cases h3:o=15 <;> simp [h1,h2,h3]
theorem ok5 (n:Int) (S:ByteArray) (o:Int) (m:Nat):nodeOk 5 n S.data.toList o m=(((n==0)&&S.toList.isEmpty)&&(!(((bnd o:Nat):Int)==0)&&((m:Int)==2))):=by
 unfold nodeOk bnd;rw [if_neg (by decide),if_neg (by decide),if_neg (by decide),if_pos rfl,<-Lib.toList_data]
 have e:((m:Int)==2)=decide (m=2):=by
  by_cases h:m=2
  ·simp [h]
  ·rw [decide_eq_false h,beq_eq_false_iff_ne];omega
 have e2:(!(((if rowOf o<6 then rowOf o+1 else 0:Nat):Int)==0))=decide (rowOf o<6):=by
  by_cases h:rowOf o<6
  ·rw [if_pos h,decide_eq_true h];have:(((rowOf o+1:Nat):Int)==0)=false:=beq_eq_false_iff_ne.2 (by omega);rw [this];rfl
  ·rw [if_neg h,decide_eq_false h];rfl
 rw [e,e2]
 rcases hS:S.toList with _|⟨c,r⟩ <;> by_cases h1:n=0 <;> simp [h1]
theorem ok0 (k n:Int) (s:List UInt8) (o:Int) (m:Nat) (h1:¬k=1) (h2:¬(k=2∨k=3)) (h4:¬k=4) (h5:¬k=5):nodeOk k n s o m=false:=by
 unfold nodeOk;rw [if_neg h1,if_neg h2,if_neg h4,if_neg h5]
theorem formed_any (w:World) (v:EV) (hs:v.name.size<=140737488351232) (hK:KwAt w) :
  Calls Tryz.prog 209 #[v.val] w λ e w'=>e=.returned (.bool (nodeOk v.kind v.num v.name.data.toList v.op v.len))/\Below w.heap.size w w':=by
 obtain ⟨g1,hg1⟩:∃g1,g1=w.heap.size:=⟨_,rfl⟩
 obtain ⟨W0,hW0⟩:∃W0,W0=w.alloc (.cells #[.int .i64 v.kind,.int .i64 v.num,.string v.name,.int .i64 v.op,.slice v.A v.len v.cap,.int .i64 v.p] 40):=⟨_,rfl⟩
 have HX:Hid (XpB W0 g1 v):=by rw [hW0,hg1];exact XpB.new w v
 have HB0:Hid (Below w.heap.size w W0):=by rw [hW0];exact (b_ _ w).alloc (n_ _) _
 obtain ⟨k,num,S,op,A,len,cap,p⟩:=v;simp only at hs hW0;show Calls _ _ #[.agg #[.int .i64 k,.int .i64 num,.string S,.int .i64 op,.slice A len cap,.int .i64 p]] _ _;simp only;have HNM:=h_ (name_any S W0 hs (hK.below HB0.out));have HBI:=h_ (binding_any op W0);have z0:=HX.out.c0;have z1:=HX.out.c1;have z2:=HX.out.c2;have z3:=HX.out.c3;have z4:=HX.out.c4;simp only at z0 z1 z2 z3 z4
 obtain ⟨P,hP⟩:∃P,((num==0)&&S.toList.isEmpty)=P:=⟨_,rfl⟩
 obtain ⟨Q,hQ⟩:∃Q,((op==0)&&((len:Int)==0))=Q:=⟨_,rfl⟩
 have HP:=h_ hP;have HQ:=h_ hQ
 obtain ⟨R,hR⟩:∃R,nodeOk k num S.data.toList op len=R:=⟨_,rfl⟩
 rw [hR];have HR:=h_ hR;clear hs hK hP hQ hR;go_enter Tryz.func209,Tryz.ntmps209;go_upto_region 1 with fail;rw [<-hW0,<-hg1];clear hW0 hg1
 go_cut [3] from 5 to 12 (λ s3 wr=>s3=.bool P/\W0=wr)
 case first =>
  cases h1:(num==0) <;> cases h2:S.toList.isEmpty
  all_goals
   go_wp2_with fail
   go_meet
   exact ⟨by rw [<-HP.out,h1,h2];rfl,rfl⟩
 case rest =>
 obtain ⟨rfl,rfl⟩:=hcut;go_upto_region 2 with fail
 go_cut [4] from 13 to 21 (λ s4 wr=>s4=.bool Q/\W0=wr)
 case first =>
  cases h1:(op==0) <;> cases h2:((len:Int)==0)
  all_goals
   go_wp2_with fail
   go_meet
   exact ⟨by rw [<-HQ.out,h1,h2];rfl,rfl⟩
 case rest =>
 obtain ⟨rfl,rfl⟩:=hcut
 by_cases k1:k=1
 ·subst k1;have HR1:=h_ ((ok1 num S op len).symm.trans HR.out);rw [HQ.out] at HR1;clear HR HNM HBI
  by_cases h3:0<=num
  ·rw [decide_eq_true h3] at HR1
   cases Q <;> cases h2:S.toList.isEmpty
   all_goals
    rw [h2] at HR1;obtain rfl:=HR1.out;go_wp2_with fail;go_ret;exact ⟨by first|rfl|simp,HB0.out⟩
  ·rw [decide_eq_false h3] at HR1
   cases Q <;> cases h2:S.toList.isEmpty
   all_goals
    rw [h2] at HR1;obtain rfl:=HR1.out;go_wp2_with fail;go_ret;exact ⟨by first|rfl|simp,HB0.out⟩
 ·by_cases k2:k=2∨k=3
  ·have HR1:=h_ ((ok2 k num S op len k2).symm.trans HR.out);rw [HQ.out] at HR1
   obtain ⟨c,hc⟩:∃c,isNm S.data.toList=c:=⟨_,rfl⟩
   rw [hc] at HR1 HNM;clear HR HBI hc;rcases k2 with rfl|rfl
   all_goals
    cases Q <;> cases h2:(num==0)
    all_goals
     rw [h2] at HR1;obtain rfl:=HR1.out;go_wp2_with (refine HNM.out.mono ?_;rintro e w1 ⟨rfl,rfl⟩);go_ret;exact ⟨by first|rfl|simp,HB0.out⟩
  ·have hk2:¬k=2:=λ h=>k2 (.inl h);have hk3:¬k=3:=λ h=>k2 (.inr h);have b1:(k==1)=false:=beq_eq_false_iff_ne.2 k1;have b2:(k==2)=false:=beq_eq_false_iff_ne.2 hk2;have b3:(k==3)=false:=beq_eq_false_iff_ne.2 hk3
   by_cases k4:k=4
   ·subst k4;have HR1:=h_ ((ok4 num S op len).symm.trans HR.out);rw [HP.out] at HR1;clear HR HNM HBI b1 b2 b3 k1 k2 hk2 hk3
    cases P <;> cases h2:(op==14) <;> cases h3:(op==15) <;> cases h4:((len:Int)==1)
    all_goals
     rw [h2,h3,h4] at HR1;obtain rfl:=HR1.out;go_wp2_with fail;go_ret;exact ⟨by first|rfl|simp,HB0.out⟩
   ·have b4:(k==4)=false:=beq_eq_false_iff_ne.2 k4
    by_cases k5:k=5
    ·subst k5;have HR1:=h_ ((ok5 num S op len).symm.trans HR.out);rw [HP.out] at HR1
     obtain ⟨z,hz⟩:∃z:Int,((bnd op:Nat):Int)=z:=⟨_,rfl⟩
     rw [hz] at HR1 HBI;clear HR HNM b1 b2 b3 b4 k1 k2 hk2 hk3 k4 hz
     cases P <;> cases h3:(z==0) <;> cases h4:((len:Int)==2)
     all_goals
      have h5:(z != 0)=!(z==0):=rfl;rw [h3] at h5;simp only [Bool.not_true,Bool.not_false] at h5;rw [h3,h4] at HR1;obtain rfl:=HR1.out;go_wp2_with (refine HBI.out.mono ?_;rintro e w1 ⟨rfl,rfl⟩);go_ret;exact ⟨by first|rfl|simp,HB0.out⟩
    ·have b5:(k==5)=false:=beq_eq_false_iff_ne.2 k5;have HR1:=h_ ((ok0 k num S.data.toList op len k1 k2 k4 k5).symm.trans HR.out);clear HR HNM HBI k1 k2 hk2 hk3 k4 k5;obtain rfl:=HR1.out;go_wp2_with fail;go_ret;exact ⟨by first|rfl|simp,HB0.out⟩
end Go.Proofs.YtpgeidpfhakgaaaGreatDoor
namespace Go.Proofs.YtpgeidpfhakgaaaGreatDoor
open Go.RowKit
def pb (z:GX) (least:Nat):Bool:=(z.kind==5) && !decide (least<=bnd z.op)
theorem pb_some {z:GX} {e:Ex} (h:z.ex=some e) {k:Nat} (hk:k<=6):pb z (k+1)=decide (e.lev<k):=by
 obtain ⟨kk,n,s,o,l,p⟩:=z;rw [ex_mk] at h;unfold pb;show ((kk==5) && !decide (k+1<=bnd o))=_;rcases node_some h with ⟨rfl,_,_,_,_,_,rfl⟩|⟨rfl,_,_,_,_,rfl⟩|⟨rfl,_,_,_,_,rfl⟩|⟨x,rfl,_,_,_,_,rfl⟩|⟨x,y,rfl,_,_,a,_,rfl⟩
 ·show (false && !decide (k+1<=bnd o))=decide (6<k);rw [Bool.false_and];exact (decide_eq_false (by omega)).symm
 ·show (false && !decide (k+1<=bnd o))=decide (6<k);rw [Bool.false_and];exact (decide_eq_false (by omega)).symm
 ·show (false && !decide (k+1<=bnd o))=decide (6<k);rw [Bool.false_and];exact (decide_eq_false (by omega)).symm
 ·show (false && !decide (k+1<=bnd o))=decide (6<k);rw [Bool.false_and];exact (decide_eq_false (by omega)).symm
 ·show (true && !decide (k+1<=bnd o))=decide (rowOf o<k);unfold bnd;rw [if_pos a]
  by_cases h:rowOf o<k
  ·rw [decide_eq_true h,decide_eq_false (by omega)];rfl
  ·rw [decide_eq_false h,decide_eq_true (by omega)];rfl
theorem pb_one {z:GX} {e:Ex} (h:z.ex=some e):pb z 7=e.isBoth:=by
 rw [pb_some h (n_ 6)];have hf:=(ex_some z e h).1
 cases e with
 |both op a b=>exact decide_eq_true hf.1
 |_=>rfl
theorem wrX_of {e:Ex} {n d L:Nat} (h:d+e.nst<=20/\L+e.tx.length<=16384/\n+e.size<=16384):wrX (some e) n d L=some e:=if_pos h
theorem wrX_not {e:Ex} {n d L:Nat} (h:¬(d+e.nst<=20/\L+e.tx.length<=16384/\n+e.size<=16384)):wrX (some e) n d L=none:=if_neg h
theorem wrP_of {b:Bool} {e:Ex} {n d L:Nat} (h:d+((if b=true then 1 else 0)+e.nst)<=20/\L+(par b e.tx).length<=16384/\n+e.size<=16384):wrP b (some e) n d L=some e:=if_pos h
theorem wrP_no {b:Bool} {e:Ex} {n d L:Nat} (h:¬(d+((if b=true then 1 else 0)+e.nst)<=20/\L+(par b e.tx).length<=16384/\n+e.size<=16384)):wrP b (some e) n d L=none:=if_neg h
theorem wrP_some {b:Bool} {x:Option Ex} {n d L:Nat} {e:Ex} (h:wrP b x n d L=some e):x=some e/\d+((if b=true then 1 else 0)+e.nst)<=20/\L+(par b e.tx).length<=16384/\n+e.size<=16384:=by
 cases x with
 |none=>cases h
 |some y =>
  by_cases c:d+((if b=true then 1 else 0)+y.nst)<=20/\L+(par b y.tx).length<=16384/\n+y.size<=16384
  ·rw [wrP_of c] at h;injection h with h;subst h;exact ⟨rfl,c⟩
  ·rw [wrP_no c] at h;cases h
theorem wrX_some {x:Option Ex} {n d L:Nat} {e:Ex} (h:wrX x n d L=some e):x=some e/\d+e.nst<=20/\L+e.tx.length<=16384/\n+e.size<=16384:=by
 cases x with
 |none=>cases h
 |some y =>
  by_cases c:d+y.nst<=20/\L+y.tx.length<=16384/\n+y.size<=16384
  ·rw [wrX_of c] at h;injection h with h;subst h;exact ⟨rfl,c⟩
  ·rw [wrX_not c] at h;cases h
theorem size_pos:∀e:Ex,1<=e.size
 |.int _ _=>n_ _
 |.var _ _=>n_ _
 |.inn _ _=>n_ _
 |.one _ x _=>Nat.le_add_right 1 x.size
 |.both _ x y=>Nat.le_add_right 1 (x.size+y.size)
theorem wrP_none {b:Bool} {y:Ex} {n d L:Nat} (h:wrP b (some y) n d L=none):¬(d+((if b=true then 1 else 0)+y.nst)<=20/\L+(par b y.tx).length<=16384/\n+y.size<=16384):=λ c=>by rw [wrP_of c] at h;cases h
theorem wrX_none {y:Ex} {n d L:Nat} (h:wrX (some y) n d L=none):¬(d+y.nst<=20/\L+y.tx.length<=16384/\n+y.size<=16384):=λ c=>by rw [wrX_of c] at h;cases h
theorem wrX_full {x:GX} {n d L:Nat} (h:¬n+1<=16384):wrX x.ex n d L=none:=by
 cases e:x.ex with
 |none=>rfl
 |some y=>have:=size_pos y;exact wrX_not (by omega)
theorem par_true (s:List UInt8):(par true s).length=s.length+2:=by simp [par]
theorem wr_par (x:Option Ex) (n d L:Nat) :
  (¬(d+1<=20/\L+1<=16384)->wrP true x n d L=none)/\(wrX x n (d+1) (L+1)=none->wrP true x n d L=none) /\
  (∀e,wrX x n (d+1) (L+1)=some e->wrP true x n d L=if L+1+e.tx.length+1<=16384 then some e else none):=by
 cases x with
 |none=>exact ⟨λ _=>rfl,λ _=>rfl,λ e h=>by cases h⟩
 |some y =>
  refine ⟨λ h=>wrP_no ?_,λ h=>wrP_no ?_,λ e h=>?_⟩
  ·rw [par_true,if_pos rfl];omega
  ·have c:=wrX_none h;rw [par_true,if_pos rfl];omega
  ·obtain ⟨h1,h2⟩:=wrX_some h;injection h1 with h1;subst h1
   split
   ·refine wrP_of ?_;rw [par_true,if_pos rfl];omega
   ·refine wrP_no ?_;rw [par_true,if_pos rfl];omega
theorem one_tx (op:Int) (e:Ex):(Ex.one op e 0).tx=(if op=14 then 45 else 33)::par e.isBoth e.tx:=rfl
theorem one_nst (op:Int) (e:Ex):(Ex.one op e 0).nst=1+((if e.isBoth=true then 1 else 0)+e.nst):=rfl
theorem one_size (op:Int) (e:Ex):(Ex.one op e 0).size=1+e.size:=rfl
theorem both_tx (op:Int) (x y:Ex):(Ex.both op x y).tx=par (decide (x.lev<rowOf op)) x.tx++32::(sgOf op++32::par (decide (y.lev<=rowOf op)) y.tx):=rfl
theorem both_nst (op:Int) (x y:Ex):(Ex.both op x y).nst=max ((if x.lev<rowOf op then 1 else 0)+x.nst) ((if y.lev<=rowOf op then 1 else 0)+y.nst):=rfl
theorem both_size (op:Int) (x y:Ex):(Ex.both op x y).size=1+(x.size+y.size):=rfl
theorem wr_one (z:GX) (op:Int) (hop:op=14∨op=15) (n d L:Nat) :
  (¬(d+1<=20/\L+1<=16384)->wrX (node 4 0 [] op [z.ex]) n d L=none)/\(wrP (pb z 7) z.ex (n+1) (d+1) (L+1)=none->wrX (node 4 0 [] op [z.ex]) n d L=none) /\
  (∀e,wrP (pb z 7) z.ex (n+1) (d+1) (L+1)=some e->wrX (node 4 0 [] op [z.ex]) n d L=some (.one op e 0)):=by
 cases h:z.ex with
 |none =>
  rw [node_one_none];exact ⟨λ _=>rfl,λ _=>rfl,λ e h=>by cases h⟩
 |some y =>
  have hb:=pb_one h;rw [node_one op y hop,hb];refine ⟨λ h=>wrX_not ?_,λ h=>wrX_not ?_,λ e h=>?_⟩
  ·have hf:=size_pos y;rw [one_tx,one_nst,List.length_cons];omega
  ·have c:=wrP_none h;rw [one_tx,one_nst,one_size,List.length_cons];omega
  ·obtain ⟨h1,h2⟩:=wrP_some h;injection h1 with h1;subst h1;refine wrX_of ?_;rw [one_tx,one_nst,one_size,List.length_cons];omega
theorem wr_both (z z':GX) (op:Int) (hop:rowOf op<6) (n d L:Nat) :
  (wrP (pb z (rowOf op+1)) z.ex (n+1) d L=none->wrX (node 5 0 [] op [z.ex,z'.ex]) n d L=none) /\
  (∀e,wrP (pb z (rowOf op+1)) z.ex (n+1) d L=some e ->
   (¬L+(par (pb z (rowOf op+1)) e.tx).length+((sgOf op).length+2)<=16384->wrX (node 5 0 [] op [z.ex,z'.ex]) n d L=none) /\
   (wrP (pb z' (rowOf op+2)) z'.ex (n+1+e.size) d (L+(par (pb z (rowOf op+1)) e.tx).length+((sgOf op).length+2))=none->wrX (node 5 0 [] op [z.ex,z'.ex]) n d L=none) /\
   (∀e',wrP (pb z' (rowOf op+2)) z'.ex (n+1+e.size) d (L+(par (pb z (rowOf op+1)) e.tx).length+((sgOf op).length+2))=some e'->wrX (node 5 0 [] op [z.ex,z'.ex]) n d L=some (.both op e e') /\
    (Ex.both op e e').tx=par (pb z (rowOf op+1)) e.tx++32::(sgOf op++32::par (pb z' (rowOf op+2)) e'.tx))):=by
 cases h:z.ex with
 |none =>
  rw [node_both_none _ _ _ (.inl rfl)];exact ⟨λ _=>rfl,λ e h=>by cases h⟩
 |some y =>
  have hb:=pb_some h (k:=rowOf op) (by omega);rw [hb]
  cases h':z'.ex with
  |none =>
   rw [node_both_none _ _ _ (.inr rfl)];exact ⟨λ _=>rfl,λ e h=>⟨λ _=>rfl,λ _=>rfl,λ e' h=>by cases h⟩⟩
  |some y' =>
   have hb':=pb_some h' (k:=rowOf op+1) (by omega)
   have e5:decide (y'.lev<rowOf op+1)=decide (y'.lev<=rowOf op):=by
    by_cases c:y'.lev<=rowOf op
    ·rw [decide_eq_true c,decide_eq_true (by omega)]
    ·rw [decide_eq_false c,decide_eq_false (by omega)]
   rw [e5] at hb';rw [hb',node_both op y y' hop]
   have hl:(Ex.both op y y').tx.length=(par (decide (y.lev<rowOf op)) y.tx).length+((sgOf op).length+2)+(par (decide (y'.lev<=rowOf op)) y'.tx).length:=by
    rw [both_tx];simp only [List.length_append,List.length_cons];omega
   have hn:(Ex.both op y y').nst=max ((if decide (y.lev<rowOf op)=true then 1 else 0)+y.nst) ((if decide (y'.lev<=rowOf op)=true then 1 else 0)+y'.nst):=by
    rw [both_nst];simp only [decide_eq_true_eq]
   have hs:=both_size op y y';have p':=size_pos y';refine ⟨λ h=>wrX_not ?_,λ e h=>?_⟩
   ·have c:=wrP_none h;rw [hl,hn,hs];omega
   ·obtain ⟨h1,h2⟩:=wrP_some h;injection h1 with h1;subst h1;refine ⟨λ h=>wrX_not ?_,λ h=>wrX_not ?_,λ e' h=>?_⟩
    ·rw [hl,hn,hs];omega
    ·have c:=wrP_none h;rw [hl,hn,hs];omega
    ·obtain ⟨h1',h2'⟩:=wrP_some h;injection h1' with h1';subst h1';refine ⟨wrX_of ?_,both_tx op y y'⟩;rw [hl,hn,hs];omega
end Go.Proofs.YtpgeidpfhakgaaaGreatDoor
