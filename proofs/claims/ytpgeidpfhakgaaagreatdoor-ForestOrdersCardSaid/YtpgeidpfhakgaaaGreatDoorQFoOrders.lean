import Derived.Test.YtpgeidpfhakgaaaGreatDoorQh
import Derived.Test.YtpgeidpfhakgaaaGreatDoorQGcO
import Derived.Test.YtpgeidpfhakgaaaGreatDoorQPkE
set_option maxHeartbeats 12800000
set_option maxRecDepth 20000
namespace Go.Proofs.YtpgeidpfhakgaaaGreatDoor
open Go.RowKit Go.Deep Go.ChangeShapes Go.WideShapes
theorem list3g {α:Type} {l:List α} (h:l.length=3):∃a b c,l=[a,b,c]:=by
 match l,h with
 |[a,b,c],_=>exact ⟨a,b,c,rfl⟩
theorem list10g {α:Type} {l:List α} (h:l.length=10):∃a b c d e f g i j k,l=[a,b,c,d,e,f,g,i,j,k]:=by
 match l,h with
 |[a,b,c,d,e,f,g,i,j,k],_=>exact ⟨a,b,c,d,e,f,g,i,j,k,rfl⟩
section
variable {H:Type} {enc:TypeId×Value->H} {W:World}
theorem bulk_one {ds:List (DataW H)}:1<=Rows.uptoBulk (DataW.agg ds):=by
 rw [Rows.uptoBulk];exact Nat.le_add_left 1 _
theorem opn_var (fuel:Nat):Opn enc W 74 dvVar SyVar.rng (λ _=>1) fuel:=by
 intro cs y h hw
 match fuel,h with
 |0,h=>simp [DataW.trod] at h
 |fuel+1,h =>
 obtain ⟨xs,n,hn,rfl,hl,hlen,hf⟩:=DataW.trod_struct Tryz.underlying74 h
 obtain rfl:fuel=n:=by omega
 have hl3:cs.length=3:=hl.trans (by kernel_rfl);have hx3:xs.length=3:=hlen;obtain ⟨c0,c1,c2,rfl⟩:=list3g hl3;obtain ⟨y0,y1,y2,rfl⟩:=list3g hx3
 have eI:Tryz.prog.cellsOf 3=1:=by kernel_rfl
 have eS:Tryz.prog.cellsOf 9=1:=by kernel_rfl
 have f0:DataW.trod enc Tryz.prog W 0 (λ _=>true) true fuel 9 [c0]=some y0:=by have h:=hf 0 _ rfl;simpa [eI,eS] using h
 have f1:DataW.trod enc Tryz.prog W 0 (λ _=>true) true fuel 3 [c1]=some y1:=by have h:=hf 1 _ rfl;simpa [eI,eS] using h
 have f2:DataW.trod enc Tryz.prog W 0 (λ _=>true) true fuel 3 [c2]=some y2:=by have h:=hf 2 _ rfl;simpa [eI,eS] using h
 have hp:=parts_wt Tryz.underlying74 hw;clear h hf hl hlen hl3 hx3;obtain ⟨s,rfl,hs⟩:=opn_str f0 (λ m hm=>hp m (DataW.weights_mem_each (j:=0) rfl rfl _ hm));obtain ⟨n1,rfl,a1,b1⟩:=opn_int f1;obtain ⟨n2,rfl,_⟩:=opn_int f2;exact ⟨⟨s,n1,n2⟩,.v rfl (.v rfl (.v rfl (DxsAt.nil W))),⟨hs,a1,b1⟩,bulk_one⟩
theorem opn_act (fuel:Nat):Opn enc W 145 gAct (λ a=>a.rng/\a.fit) (λ _=>1) fuel:=by
 intro cs y h hw
 match fuel,h with
 |0,h=>simp [DataW.trod] at h
 |fuel+1,h =>
 obtain ⟨xs,n,hn,rfl,hl,hlen,hf⟩:=DataW.trod_struct Tryz.underlying145 h
 obtain rfl:fuel=n:=by omega
 have hl9:cs.length=9:=hl.trans (by kernel_rfl);have hx4:xs.length=4:=hlen;obtain ⟨c0,c1,c2,c3,c4,c5,c6,c7,c8,rfl⟩:=list9 hl9;obtain ⟨y0,y1,y2,y3,rfl⟩:=list4 hx4
 have eI:Tryz.prog.cellsOf 3=1:=by kernel_rfl
 have eS:Tryz.prog.cellsOf 9=1:=by kernel_rfl
 have eE:Tryz.prog.cellsOf 40=6:=by kernel_rfl
 have f0:DataW.trod enc Tryz.prog W 0 (λ _=>true) true fuel 3 [c0]=some y0:=by have h:=hf 0 _ rfl;simpa [eI,eS,eE] using h
 have f1:DataW.trod enc Tryz.prog W 0 (λ _=>true) true fuel 9 [c1]=some y1:=by have h:=hf 1 _ rfl;simpa [eI,eS,eE] using h
 have f2:DataW.trod enc Tryz.prog W 0 (λ _=>true) true fuel 40 [c2,c3,c4,c5,c6,c7]=some y2:=by have h:=hf 2 _ rfl;simpa [eI,eS,eE] using h
 have f3:DataW.trod enc Tryz.prog W 0 (λ _=>true) true fuel 3 [c8]=some y3:=by have h:=hf 3 _ rfl;simpa [eI,eS,eE] using h
 have hp:=parts_wt Tryz.underlying145 hw;clear h hf hl hlen hl9 hx4;obtain ⟨k,rfl,_⟩:=opn_int f0;obtain ⟨s,rfl,hs⟩:=opn_str f1 (λ m hm=>hp m (DataW.weights_mem_each (j:=1) rfl rfl _ hm));obtain ⟨x,v,hc,hg,hr,hft,_⟩:=open_tree8 _ _ _ f2 (λ m hm=>hp m (DataW.weights_mem_each (j:=2) rfl rfl _ hm));obtain ⟨p,rfl,_⟩:=opn_int f3;unfold EV.cells at hc;simp only [List.cons.injEq,and_true] at hc;obtain ⟨rfl,rfl,rfl,rfl,rfl,rfl⟩:=hc;exact ⟨⟨k,s,x,p⟩,.v rfl (.v rfl (gEx_at hg (.v rfl (DxsAt.nil W)))),⟨⟨hs,hr⟩,hft⟩,bulk_one⟩
theorem opn_acts {fuel:Nat} {c:Value} {y:DataW H×List MemPlace} (h:DataW.trod enc Tryz.prog W 0 (λ _=>true) true fuel 23 [c]=some y) (hw:∀m∈y.1.weights Tryz.prog 23,m<=140737488351232) :
  ∃l:List GA,DxAt W (gActs l) c/\(∀a∈l,a.rng/\a.fit)/\l.length*104<=140737488351232/\l.length<=Rows.uptoBulk y.1:=by
 obtain ⟨l,h1,h2,h3,h4⟩:=opn_row Tryz.underlying23 (k:=9) (B:=104) (by kernel_rfl) (by kernel_rfl) gAct_len (by decide) (λ n _=>opn_act n) h hw;exact ⟨l,h1,h2,h3,by rw [sumL_one] at h4;exact h4⟩
theorem opn_move (fuel:Nat):Opn enc W 43 gMove (λ a=>a.rng/\a.fit) GM.cnt fuel:=by
 intro cs y h hw
 match fuel,h with
 |0,h=>simp [DataW.trod] at h
 |fuel+1,h =>
 obtain ⟨xs,n,hn,rfl,hl,hlen,hf⟩:=DataW.trod_struct Tryz.underlying43 h
 obtain rfl:fuel=n:=by omega
 have hl13:cs.length=13:=hl.trans (by kernel_rfl);have hx8:xs.length=8:=hlen;obtain ⟨c0,c1,c2,c3,c4,c5,c6,c7,c8,c9,c10,c11,c12,rfl⟩:=list13 hl13;obtain ⟨y0,y1,y2,y3,y4,y5,y6,y7,rfl⟩:=list8 hx8
 have eI:Tryz.prog.cellsOf 3=1:=by kernel_rfl
 have eS:Tryz.prog.cellsOf 9=1:=by kernel_rfl
 have eB:Tryz.prog.cellsOf 4=1:=by kernel_rfl
 have eE:Tryz.prog.cellsOf 40=6:=by kernel_rfl
 have eA:Tryz.prog.cellsOf 23=1:=by kernel_rfl
 have eT:Tryz.prog.cellsOf 41=1:=by kernel_rfl
 have f0:DataW.trod enc Tryz.prog W 0 (λ _=>true) true fuel 3 [c0]=some y0:=by have h:=hf 0 _ rfl;simpa [eI,eS,eB,eE,eA,eT] using h
 have f1:DataW.trod enc Tryz.prog W 0 (λ _=>true) true fuel 9 [c1]=some y1:=by have h:=hf 1 _ rfl;simpa [eI,eS,eB,eE,eA,eT] using h
 have f2:DataW.trod enc Tryz.prog W 0 (λ _=>true) true fuel 3 [c2]=some y2:=by have h:=hf 2 _ rfl;simpa [eI,eS,eB,eE,eA,eT] using h
 have f3:DataW.trod enc Tryz.prog W 0 (λ _=>true) true fuel 4 [c3]=some y3:=by have h:=hf 3 _ rfl;simpa [eI,eS,eB,eE,eA,eT] using h
 have f4:DataW.trod enc Tryz.prog W 0 (λ _=>true) true fuel 40 [c4,c5,c6,c7,c8,c9]=some y4:=by have h:=hf 4 _ rfl;simpa [eI,eS,eB,eE,eA,eT] using h
 have f5:DataW.trod enc Tryz.prog W 0 (λ _=>true) true fuel 23 [c10]=some y5:=by have h:=hf 5 _ rfl;simpa [eI,eS,eB,eE,eA,eT] using h
 have f6:DataW.trod enc Tryz.prog W 0 (λ _=>true) true fuel 41 [c11]=some y6:=by have h:=hf 6 _ rfl;simpa [eI,eS,eB,eE,eA,eT] using h
 have f7:DataW.trod enc Tryz.prog W 0 (λ _=>true) true fuel 3 [c12]=some y7:=by have h:=hf 7 _ rfl;simpa [eI,eS,eB,eE,eA,eT] using h
 have hp:=parts_wt Tryz.underlying43 hw;clear h hf hl hlen hl13 hx8;obtain ⟨k,rfl,_⟩:=opn_int f0;obtain ⟨s,rfl,hs⟩:=opn_str f1 (λ m hm=>hp m (DataW.weights_mem_each (j:=1) rfl rfl _ hm));obtain ⟨wt,rfl,w1,w2⟩:=opn_int f2;obtain ⟨gd,rfl⟩:=opn_bool f3;obtain ⟨x,v,hc,hg,hr,hft,_⟩:=open_tree8 _ _ _ f4 (λ m hm=>hp m (DataW.weights_mem_each (j:=4) rfl rfl _ hm));obtain ⟨l,l1,l2,l3,l4⟩:=opn_acts f5 (λ m hm=>hp m (DataW.weights_mem_each (j:=5) rfl rfl _ hm));obtain ⟨q,q1,q2,q3,q4⟩:=opn_row Tryz.underlying41 (k:=1) (B:=16) (by kernel_rfl) (by kernel_rfl) (λ _=>rfl) (by decide) (λ n _=>opn_strs H enc W n) f6 (λ m hm=>hp m (DataW.weights_mem_each (j:=6) rfl rfl _ hm));obtain ⟨p,rfl,_⟩:=opn_int f7;unfold EV.cells at hc;simp only [List.cons.injEq,and_true] at hc;obtain ⟨rfl,rfl,rfl,rfl,rfl,rfl⟩:=hc
 have q1':DxAt W (dvStrs q) c11:=by
  unfold dvStrs
  have e:(q.flatMap λ s=>[DV.v (txV s)])=q.map (λ s=>DV.v (txV s)):=by
   clear q1 q2 q3 q4
   induction q with
   |nil=>rfl
   |cons a q ih=>rw [List.flatMap_cons,List.map_cons,ih];rfl
  rw [<-e];exact q1
 refine ⟨⟨k,s,wt,gd,x,l,q,p⟩,.v rfl (.v rfl (.v rfl (.v rfl (gEx_at hg (.cons l1 (.cons q1' (.v rfl (DxsAt.nil W)))))))),⟨⟨hs,⟨w1,w2⟩,hr,λ a ha=>(l2 a ha).1,q2⟩,hft,λ a ha=>(l2 a ha).2,l3,q3⟩,?_⟩;rw [sumL_one] at q4;simp only [GM.cnt,List.map_cons,List.map_nil,Rows.uptoBulk,Rows.uptoBulkAll];omega
theorem sum_split {α:Type} {P Q:α->Prop} {l:List α} (h:∀a∈l,P a/\Q a):(∀a∈l,P a)/\∀a∈l,Q a:=⟨λ a ha=>(h a ha).1,λ a ha=>(h a ha).2⟩
theorem opn_node:∀fuel:Nat,Opn enc W 27 gNode (λ a=>a.rng/\a.fit) GN.cnt fuel
 |0=>by
  intro cs y h hw;simp [DataW.trod] at h
 |fuel+1=>by
  intro cs y h hw;obtain ⟨xs,n,hn,rfl,hl,hlen,hf⟩:=DataW.trod_struct Tryz.underlying27 h
  obtain rfl:fuel=n:=by omega
  have hl9:cs.length=9:=hl.trans (by kernel_rfl);have hx9:xs.length=9:=hlen;obtain ⟨c0,c1,c2,c3,c4,c5,c6,c7,c8,rfl⟩:=list9 hl9;obtain ⟨y0,y1,y2,y3,y4,y5,y6,y7,y8,rfl⟩:=list9 hx9
  have eI:Tryz.prog.cellsOf 3=1:=by kernel_rfl
  have eS:Tryz.prog.cellsOf 9=1:=by kernel_rfl
  have eA:Tryz.prog.cellsOf 23=1:=by kernel_rfl
  have eM:Tryz.prog.cellsOf 24=1:=by kernel_rfl
  have eN:Tryz.prog.cellsOf 25=1:=by kernel_rfl
  have f0:DataW.trod enc Tryz.prog W 0 (λ _=>true) true fuel 3 [c0]=some y0:=by have h:=hf 0 _ rfl;simpa [eI,eS,eA,eM,eN] using h
  have f1:DataW.trod enc Tryz.prog W 0 (λ _=>true) true fuel 9 [c1]=some y1:=by have h:=hf 1 _ rfl;simpa [eI,eS,eA,eM,eN] using h
  have f2:DataW.trod enc Tryz.prog W 0 (λ _=>true) true fuel 9 [c2]=some y2:=by have h:=hf 2 _ rfl;simpa [eI,eS,eA,eM,eN] using h
  have f3:DataW.trod enc Tryz.prog W 0 (λ _=>true) true fuel 9 [c3]=some y3:=by have h:=hf 3 _ rfl;simpa [eI,eS,eA,eM,eN] using h
  have f4:DataW.trod enc Tryz.prog W 0 (λ _=>true) true fuel 23 [c4]=some y4:=by have h:=hf 4 _ rfl;simpa [eI,eS,eA,eM,eN] using h
  have f5:DataW.trod enc Tryz.prog W 0 (λ _=>true) true fuel 23 [c5]=some y5:=by have h:=hf 5 _ rfl;simpa [eI,eS,eA,eM,eN] using h
  have f6:DataW.trod enc Tryz.prog W 0 (λ _=>true) true fuel 24 [c6]=some y6:=by have h:=hf 6 _ rfl;simpa [eI,eS,eA,eM,eN] using h
  have f7:DataW.trod enc Tryz.prog W 0 (λ _=>true) true fuel 25 [c7]=some y7:=by have h:=hf 7 _ rfl;simpa [eI,eS,eA,eM,eN] using h
  have f8:DataW.trod enc Tryz.prog W 0 (λ _=>true) true fuel 3 [c8]=some y8:=by have h:=hf 8 _ rfl;simpa [eI,eS,eA,eM,eN] using h
  have hp:=parts_wt Tryz.underlying27 hw;clear h hf hl hlen hl9 hx9;obtain ⟨k,rfl,_⟩:=opn_int f0;obtain ⟨s1,rfl,hs1⟩:=opn_str f1 (λ m hm=>hp m (DataW.weights_mem_each (j:=1) rfl rfl _ hm));obtain ⟨s2,rfl,hs2⟩:=opn_str f2 (λ m hm=>hp m (DataW.weights_mem_each (j:=2) rfl rfl _ hm));obtain ⟨s3,rfl,hs3⟩:=opn_str f3 (λ m hm=>hp m (DataW.weights_mem_each (j:=3) rfl rfl _ hm));obtain ⟨en,e1,e2,e3,e4⟩:=opn_acts f4 (λ m hm=>hp m (DataW.weights_mem_each (j:=4) rfl rfl _ hm));obtain ⟨le,l1,l2,l3,l4⟩:=opn_acts f5 (λ m hm=>hp m (DataW.weights_mem_each (j:=5) rfl rfl _ hm));obtain ⟨mo,m1,m2,m3,m4⟩:=opn_row Tryz.underlying24 (k:=13) (B:=168) (by kernel_rfl) (by kernel_rfl) gMove_len (by decide) (λ n _=>opn_move n) f6 (λ m hm=>hp m (DataW.weights_mem_each (j:=6) rfl rfl _ hm));obtain ⟨ks,k1,k2,k3,k4⟩:=opn_row Tryz.underlying25 (k:=9) (B:=160) (by kernel_rfl) (by kernel_rfl) gNode_len (by decide) (λ n hn=>opn_node n) f7 (λ m hm=>hp m (DataW.weights_mem_each (j:=7) rfl rfl _ hm));obtain ⟨p,rfl,_⟩:=opn_int f8
  have k1':DxAt W (gKids ks) c7:=by
   unfold gKids;rw [gNodes_flat];exact k1
  refine ⟨.mk k s1 s2 s3 en le mo ks p,?_,⟨?_,?_⟩,?_⟩
  ·rw [gNode_mk];exact .v rfl (.v rfl (.v rfl (.v rfl (.cons e1 (.cons l1 (.cons (show DxAt W (gMoves mo) c6 from m1) (.cons k1' (.v rfl (DxsAt.nil W)))))))))
  ·rw [GN.rng];exact ⟨hs1,hs2,hs3,(sum_split e2).1,(sum_split l2).1,(sum_split m2).1,GN.rngs_iff.2 (sum_split k2).1⟩
  ·rw [GN.fit];exact ⟨(sum_split e2).2,(sum_split l2).2,(sum_split m2).2,e3,l3,m3,k3,GN.fits_iff.2 (sum_split k2).2⟩
  ·rw [GN.cnt,GN.cnts_sum];simp only [List.map_cons,List.map_nil,Rows.uptoBulk,Rows.uptoBulkAll];omega
 termination_by fuel=>fuel
def GC.cnt (c:GC):Nat:=c.vars.length+c.root.cnt
theorem opn_chart (fuel:Nat):Opn enc W 29 gChart (λ a=>a.rng/\a.fit) GC.cnt fuel:=by
 intro cs y h hw
 match fuel,h with
 |0,h=>simp [DataW.trod] at h
 |fuel+1,h =>
 obtain ⟨xs,n,hn,rfl,hl,hlen,hf⟩:=DataW.trod_struct Tryz.underlying29 h
 obtain rfl:fuel=n:=by omega
 have hl10:cs.length=10:=hl.trans (by kernel_rfl);have hx2:xs.length=2:=hlen;obtain ⟨c0,c1,c2,c3,c4,c5,c6,c7,c8,c9,rfl⟩:=list10g hl10;obtain ⟨y0,y1,rfl⟩:=list2 hx2
 have eV:Tryz.prog.cellsOf 22=1:=by kernel_rfl
 have eN:Tryz.prog.cellsOf 27=9:=by kernel_rfl
 have f0:DataW.trod enc Tryz.prog W 0 (λ _=>true) true fuel 22 [c0]=some y0:=by have h:=hf 0 _ rfl;simpa [eV,eN] using h
 have f1:DataW.trod enc Tryz.prog W 0 (λ _=>true) true fuel 27 [c1,c2,c3,c4,c5,c6,c7,c8,c9]=some y1:=by have h:=hf 1 _ rfl;simpa [eV,eN] using h
 have hp:=parts_wt Tryz.underlying29 hw;clear h hf hl hlen hl10 hx2;obtain ⟨vs,v1,v2,v3,v4⟩:=opn_row Tryz.underlying22 (k:=3) (B:=32) (by kernel_rfl) (by kernel_rfl) dvVar_len (by decide) (λ n _=>opn_var n) f0 (λ m hm=>hp m (DataW.weights_mem_each (j:=0) rfl rfl _ hm));obtain ⟨x,x1,⟨x2,x3⟩,x4⟩:=opn_node fuel _ _ f1 (λ m hm=>hp m (DataW.weights_mem_each (j:=1) rfl rfl _ hm));refine ⟨⟨vs,x⟩,.cons (show DxAt W (dvVars vs) c0 from v1) x1,⟨⟨v2,x2⟩,v3,x3⟩,?_⟩;rw [sumL_one] at v4;simp only [GC.cnt,List.map_cons,List.map_nil,Rows.uptoBulk,Rows.uptoBulkAll];omega
end
theorem fit_lenM {m:GM} (h:m.fit):m.len:=by
 have:=h.2.2.1;unfold GM.len;omega
mutual
theorem fit_lenN:∀x:GN,x.fit->x.len
 |.mk k nm ini dft en le mo ks p,h=>by
  rw [GN.fit] at h;obtain ⟨_,_,h3,h4,h5,h6,h7,h8⟩:=h;rw [GN.len];exact ⟨by omega,by omega,by omega,by omega,λ m hm=>fit_lenM (h3 m hm),fit_lenNs ks h8⟩
theorem fit_lenNs:∀l:List GN,GN.fits l->GN.lens l
 |[],_=>by rw [GN.lens];trivial
 |x::l,h=>by
  rw [GN.fits] at h;rw [GN.lens];exact ⟨fit_lenN x h.1,fit_lenNs l h.2⟩
end
theorem open_chart {H:Type} {enc:TypeId×Value->H} {W:World} {ts:List TypeId} {ds:List (DataW H)} (hsz:(DataW.weightsEach Tryz.prog ts ds).all (·<=reachBytes)=true) {j:Nat} (ht:ts[j]?=some 29)
  {cs:Array Value} {d:DataW H} {p:List MemPlace} (hd:ds[j]?=some d) (h:DataW.Trod enc Tryz.prog W 0 (λ _=>true) true 29 (.agg cs) d p) :
  ∃(c:GC) (xs:List Value),cs=xs.toArray/\DxsAt W (gChart c) xs/\c.rng/\c.fit/\c.cnt<=Rows.uptoBulk d:=by
 obtain ⟨fuel,hf⟩:=h
 obtain ⟨c,h1,⟨h2,h3⟩,h4⟩:=opn_chart fuel _ _ hf (λ m hm=>by
  have:=List.all_eq_true.1 hsz _ (DataW.weights_mem_each ht hd _ hm)
  exact of_decide_eq_true this)
 exact ⟨c,cs.toList,by simp,h1,h2,h3,h4⟩
end Go.Proofs.YtpgeidpfhakgaaaGreatDoor
namespace Go.Proofs.YtpgeidpfhakgaaaGreatDoor
open Go.RowKit
theorem forders_law (c:GC) (xs:List Value) (a b d:Int) (w:World) (hx:DxsAt w (gChart c) xs) (hr:c.rng) (hf:c.fit) (_h1:(Lit.int .i64 a).wf=true) (_h2:(Lit.int .i64 b).wf=true) (_h3:(Lit.int .i64 d).wf=true) (hK:KwAt w) (hEr:ErrAt w) (hSg:SgAt w) (hPw:PowTab w) :
  Calls Tryz.prog 6 #[.agg xs.toArray,.int .i64 a,.int .i64 b,.int .i64 d] w λ e w'=>e=.returned (.bool true)/\Below w.heap.size w w':=by
 have HEE:Hid (Ee w):=⟨⟨hK,hEr⟩,hSg,hPw⟩
 obtain ⟨x0,x1,x2,x3,x4,x5,x6,x7,x8,x9,rfl⟩:=cells10 (chart_cells hx)
 obtain ⟨W0,hW0⟩:∃W,W=w.alloc (.cells #[x0,x1,x2,x3,x4,x5,x6,x7,x8,x9] 29):=⟨_,rfl⟩
 obtain ⟨g0,hg0⟩:∃g,g=w.heap.size:=⟨_,rfl⟩
 have hal:Below w.heap.size w W0:=by rw [hW0];exact (b_ _ w).alloc (n_ _) _
 have HB0:=h_ hal
 have HC0:Hid (CB W0 g0 29 [x0,x1,x2,x3,x4,x5,x6,x7,x8,x9]):=by rw [hW0,hg0];exact CB.new w _ [x0,x1,x2,x3,x4,x5,x6,x7,x8,x9]
 have ro:∀u∈[x0,x1,x2,x3,x4,x5,x6,x7,x8,x9],u.oneCell'=true:=hx.ones;have HS:=h_ (small9_any W0 (HEE.out.below hal));have HPR:=h_ (λ (W:World) (hb:Below w.heap.size w W)=>flat_any W c _ (HEE.out.below hb) (hx.below hb) hr (fit_lenN _ hf.2));clear hK hEr hSg hPw hx hr hf hal;have o0:=ro x0 (by simp);have o1:=ro x1 (by simp);have o2:=ro x2 (by simp);have o3:=ro x3 (by simp);have o4:=ro x4 (by simp);have o5:=ro x5 (by simp);have o6:=ro x6 (by simp);have o7:=ro x7 (by simp);have o8:=ro x8 (by simp);have o9:=ro x9 (by simp);clear ro;go_enter Tryz.func6,Tryz.ntmps6;go_upto_region 1 with fail;rw [<-hW0,<-hg0];clear hW0 hg0 o0 o1 o2 o3 o4 o5 o6 o7 o8 o9;go_wp2_with fail;refine HS.out.mono ?_;rintro e w1 ⟨rfl,hb1⟩;have HB1:=h_ (HB0.out.trans (hb1.mono HB0.out.size));have HC1:=h_ (HC0.out.below hb1);clear hb1 HS HC0 HB0;have u0:=HC1.out.c 0 rfl;have u1:=HC1.out.c 1 rfl;have u2:=HC1.out.c 2 rfl;have u3:=HC1.out.c 3 rfl;have u4:=HC1.out.c 4 rfl;have u5:=HC1.out.c 5 rfl;have u6:=HC1.out.c 6 rfl;have u7:=HC1.out.c 7 rfl;have u8:=HC1.out.c 8 rfl;have u9:=HC1.out.c 9 rfl;go_wp2_with fail;refine (HPR.out w1 HB1.out).mono ?_;rintro e w3 ⟨v3,rfl,hf3⟩;have HB3:=h_ (HB1.out.trans (hf3.bl.mono HB1.out.size));clear u0 u1 u2 u3 u4 u5 u6 u7 u8 u9 HC1 HPR HEE
 obtain ⟨P,hP⟩:∃P,(prR c).2=P:=⟨_,rfl⟩
 have hno:=hf3.no;have hyes:=hf3.yes;rw [hP] at hno hyes ⊢;clear hf3 hP
 by_cases hz:P=0
 rotate_left
 ·have h2:(P != 0)=true:=by simpa [bne] using hz
  clear hno hyes hz;go_wp2_with fail;go_ret;exact ⟨rfl,HB3.out⟩
 subst hz;obtain ⟨hsp,hn64⟩:=hyes rfl;have hFo:=lay_fo c.root;have hN:=layN_len c.root (-1) 0 0
 obtain ⟨F,hF⟩:∃F,layN c.root (-1) 0 0=F:=⟨_,rfl⟩
 rw [hF] at hsp hFo hN;clear hF hno hyes;obtain ⟨g,cc,cur,rfl,h1,h2,h3,h4,h5,hrow⟩:=hsp.row (by intro e;have:=hFo.pos;rw [e] at this;cases this)
 have hF64:F.length<=64:=by omega
 clear hsp h1 h2 h3 h4 h5 hN hn64 cur;have HWT:=h_ (λ (W:World) (x y:Int) (hb:Below w3.heap.size w3 W)=>fwithin_any W g cc F x y (hrow.below hb));have HUP:=h_ (fup_any w3 g cc F a hrow (by omega));have HUA:=h_ (hFo.up_any a b);have HIR:=h_ (inW_irr F a);have HAS:=h_ (λ h=>inW_asym F a b h);have HTR:=h_ (λ h h'=>hFo.trans (a:=a) (b:=b) (d:=d) h h')
 obtain ⟨N,hN⟩:∃N,F.length=N:=⟨_,rfl⟩
 simp only [hN] at HWT HUP ⊢;have W1:=HWT.out w3 a b (b_ _ _);have W2:=HWT.out w3 b d (b_ _ _)
 obtain ⟨q1,hq1⟩:∃q,inW F a b=q:=⟨_,rfl⟩
 obtain ⟨q2,hq2⟩:∃q,inW F b d=q:=⟨_,rfl⟩
 rw [hq1] at W1 HUA HAS HTR;rw [hq2] at W2 HTR;have HW1:=h_ W1;have HW2:=h_ W2
 have HWA:Hid (∀W:World,Below w3.heap.size w3 W->Calls Tryz.prog 22 #[.slice (some ⟨g,0,none⟩) N cc,.int .i64 a,.int .i64 a] W λ e w'=>e=.returned (.bool false)/\w'=W):=λ W hb=>by
  have:=HWT.out W a a hb;rw [HIR.out] at this;exact this
 clear W1 W2 hq1 hq2 hrow hFo hF64 hN HIR;go_wp2_with fail;refine HW1.out.mono ?_;rintro e w4 ⟨rfl,rfl⟩;go_wp2_with fail;refine HW2.out.mono ?_;rintro e w5 ⟨rfl,rfl⟩;clear HW1 HW2;go_wp2_with fail;refine HUP.out.mono ?_;rintro e w6 ⟨v6,rfl,hi6,hb6⟩;obtain ⟨A,c6,rfl,k1,k2,hA⟩:=hi6.at_;have HH:=h_ (has9_any w6 A _ c6 _ b rfl ⟨k1,k2⟩ hA);have HB6:=h_ hb6;have HB7:=h_ (HB3.out.trans (hb6.mono HB3.out.size))
 have HD:Hid (decide (b∈upF F a)=q1):=by
  show _=_;rw [Bool.eq_iff_iff,decide_eq_true_eq];exact HUA.out
 rw [HD.out] at HH
 obtain ⟨n6,hn6⟩:∃n,(upF F a).length=n:=⟨_,rfl⟩
 rw [hn6] at HH ⊢;clear hi6 hb6 k1 k2 hA HUP HUA hn6 HD HB3;go_wp2_with fail;refine HH.out.mono ?_;rintro e w7 ⟨rfl,rfl⟩;have HWA7:=h_ (HWA.out w7 HB6.out)
 have HWB:Hid (q1=true->Calls Tryz.prog 22 #[.slice (some ⟨g,0,none⟩) N cc,.int .i64 b,.int .i64 a] w7 λ e w'=>e=.returned (.bool false)/\w'=w7):=λ h=>by
  have:=HWT.out w7 b a HB6.out;rw [HAS.out h] at this;exact this
 have HWD:Hid (q1=true->q2=true->Calls Tryz.prog 22 #[.slice (some ⟨g,0,none⟩) N cc,.int .i64 a,.int .i64 d] w7 λ e w'=>e=.returned (.bool true)/\w'=w7):=λ h h'=>by
  have:=HWT.out w7 a d HB6.out;rw [HTR.out h h'] at this;exact this
 clear HH HWA HWT HAS HTR HB6
 cases q1 with
 |false =>
  clear HWB HWD;go_wp2_with fail;refine HWA7.out.mono ?_;rintro e w8 ⟨rfl,rfl⟩;go_wp2_with fail;go_ret;exact ⟨rfl,HB7.out⟩
 |true =>
  have HWB':=h_ (HWB.out rfl)
  cases q2 with
  |false =>
   clear HWB HWD;go_wp2_with fail;refine HWA7.out.mono ?_;rintro e w8 ⟨rfl,rfl⟩;go_wp2_with fail;refine HWB'.out.mono ?_;rintro e w9 ⟨rfl,rfl⟩;go_wp2_with fail;go_ret;exact ⟨rfl,HB7.out⟩
  |true =>
   have HWD':=h_ (HWD.out rfl rfl);clear HWB HWD;go_wp2_with fail;refine HWA7.out.mono ?_;rintro e w8 ⟨rfl,rfl⟩;go_wp2_with fail;refine HWB'.out.mono ?_;rintro e w9 ⟨rfl,rfl⟩;go_wp2_with fail;refine HWD'.out.mono ?_;rintro e w10 ⟨rfl,rfl⟩;go_wp2_with fail;go_ret;exact ⟨rfl,HB7.out⟩
end Go.Proofs.YtpgeidpfhakgaaaGreatDoor
