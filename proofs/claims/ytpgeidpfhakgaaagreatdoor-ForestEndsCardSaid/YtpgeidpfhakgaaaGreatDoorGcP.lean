import Derived.Test.YtpgeidpfhakgaaaGreatDoorQh
import Derived.Test.YtpgeidpfhakgaaaGreatDoorQGcO
import Derived.Test.YtpgeidpfhakgaaaGreatDoorQPkE
set_option maxHeartbeats 12800000
set_option maxRecDepth 20000
namespace Go.Proofs.YtpgeidpfhakgaaaGreatDoor
open Go.RowKit Go.Deep Go.ChangeShapes Go.WideShapes
theorem list3g {α:Type} {l:List α} (h:l.length=3):∃a b c,l=[a,b,c]:=by
 match l,h with
 |[a,b,c],_=>exact ⟨a,b,c,rfl⟩
theorem list10g {α:Type} {l:List α} (h:l.length=10):∃a b c d e f g i j k,l=[a,b,c,d,e,f,g,i,j,k]:=by
 match l,h with
 |[a,b,c,d,e,f,g,i,j,k],_=>exact ⟨a,b,c,d,e,f,g,i,j,k,rfl⟩
section
variable {H:Type} {enc:TypeId×Value->H} {W:World}
theorem bulk_one {ds:List (DataW H)}:1<=Rows.uptoBulk (DataW.agg ds):=by
 rw [Rows.uptoBulk];exact Nat.le_add_left 1 _
theorem opn_var (fuel:Nat):Opn enc W 74 dvVar SyVar.rng (λ _=>1) fuel:=by
 intro cs y h hw
 match fuel,h with
 |0,h=>simp [DataW.trod] at h
 |fuel+1,h =>
 obtain ⟨xs,n,hn,rfl,hl,hlen,hf⟩:=DataW.trod_struct Tryz.underlying74 h
 obtain rfl:fuel=n:=by omega
 have hl3:cs.length=3:=hl.trans (by kernel_rfl);have hx3:xs.length=3:=hlen;obtain ⟨c0,c1,c2,rfl⟩:=list3g hl3;obtain ⟨y0,y1,y2,rfl⟩:=list3g hx3
 have eI:Tryz.prog.cellsOf 3=1:=by kernel_rfl
 have eS:Tryz.prog.cellsOf 9=1:=by kernel_rfl
 have f0:DataW.trod enc Tryz.prog W 0 (λ _=>true) true fuel 9 [c0]=some y0:=by have h:=hf 0 _ rfl;simpa [eI,eS] using h
 have f1:DataW.trod enc Tryz.prog W 0 (λ _=>true) true fuel 3 [c1]=some y1:=by have h:=hf 1 _ rfl;simpa [eI,eS] using h
 have f2:DataW.trod enc Tryz.prog W 0 (λ _=>true) true fuel 3 [c2]=some y2:=by have h:=hf 2 _ rfl;simpa [eI,eS] using h
 have hp:=parts_wt Tryz.underlying74 hw;clear h hf hl hlen hl3 hx3;obtain ⟨s,rfl,hs⟩:=opn_str f0 (λ m hm=>hp m (DataW.weights_mem_each (j:=0) rfl rfl _ hm));obtain ⟨n1,rfl,a1,b1⟩:=opn_int f1;obtain ⟨n2,rfl,_⟩:=opn_int f2;exact ⟨⟨s,n1,n2⟩,.v rfl (.v rfl (.v rfl (DxsAt.nil W))),⟨hs,a1,b1⟩,bulk_one⟩
theorem opn_act (fuel:Nat):Opn enc W 145 gAct (λ a=>a.rng/\a.fit) (λ _=>1) fuel:=by
 intro cs y h hw
 match fuel,h with
 |0,h=>simp [DataW.trod] at h
 |fuel+1,h =>
 obtain ⟨xs,n,hn,rfl,hl,hlen,hf⟩:=DataW.trod_struct Tryz.underlying145 h
 obtain rfl:fuel=n:=by omega
 have hl9:cs.length=9:=hl.trans (by kernel_rfl);have hx4:xs.length=4:=hlen;obtain ⟨c0,c1,c2,c3,c4,c5,c6,c7,c8,rfl⟩:=list9 hl9;obtain ⟨y0,y1,y2,y3,rfl⟩:=list4 hx4
 have eI:Tryz.prog.cellsOf 3=1:=by kernel_rfl
 have eS:Tryz.prog.cellsOf 9=1:=by kernel_rfl
 have eE:Tryz.prog.cellsOf 40=6:=by kernel_rfl
 have f0:DataW.trod enc Tryz.prog W 0 (λ _=>true) true fuel 3 [c0]=some y0:=by have h:=hf 0 _ rfl;simpa [eI,eS,eE] using h
 have f1:DataW.trod enc Tryz.prog W 0 (λ _=>true) true fuel 9 [c1]=some y1:=by have h:=hf 1 _ rfl;simpa [eI,eS,eE] using h
 have f2:DataW.trod enc Tryz.prog W 0 (λ _=>true) true fuel 40 [c2,c3,c4,c5,c6,c7]=some y2:=by have h:=hf 2 _ rfl;simpa [eI,eS,eE] using h
 have f3:DataW.trod enc Tryz.prog W 0 (λ _=>true) true fuel 3 [c8]=some y3:=by have h:=hf 3 _ rfl;simpa [eI,eS,eE] using h
 have hp:=parts_wt Tryz.underlying145 hw;clear h hf hl hlen hl9 hx4;obtain ⟨k,rfl,_⟩:=opn_int f0;obtain ⟨s,rfl,hs⟩:=opn_str f1 (λ m hm=>hp m (DataW.weights_mem_each (j:=1) rfl rfl _ hm));obtain ⟨x,v,hc,hg,hr,hft,_⟩:=open_tree8 _ _ _ f2 (λ m hm=>hp m (DataW.weights_mem_each (j:=2) rfl rfl _ hm));obtain ⟨p,rfl,_⟩:=opn_int f3;unfold EV.cells at hc;simp only [List.cons.injEq,and_true] at hc;obtain ⟨rfl,rfl,rfl,rfl,rfl,rfl⟩:=hc;exact ⟨⟨k,s,x,p⟩,.v rfl (.v rfl (gEx_at hg (.v rfl (DxsAt.nil W)))),⟨⟨hs,hr⟩,hft⟩,bulk_one⟩
theorem opn_acts {fuel:Nat} {c:Value} {y:DataW H×List MemPlace} (h:DataW.trod enc Tryz.prog W 0 (λ _=>true) true fuel 23 [c]=some y) (hw:∀m∈y.1.weights Tryz.prog 23,m<=140737488351232) :
  ∃l:List GA,DxAt W (gActs l) c/\(∀a∈l,a.rng/\a.fit)/\l.length*104<=140737488351232/\l.length<=Rows.uptoBulk y.1:=by
 obtain ⟨l,h1,h2,h3,h4⟩:=opn_row Tryz.underlying23 (k:=9) (B:=104) (by kernel_rfl) (by kernel_rfl) gAct_len (by decide) (λ n _=>opn_act n) h hw;exact ⟨l,h1,h2,h3,by rw [sumL_one] at h4;exact h4⟩
theorem opn_move (fuel:Nat):Opn enc W 43 gMove (λ a=>a.rng/\a.fit) GM.cnt fuel:=by
 intro cs y h hw
 match fuel,h with
 |0,h=>simp [DataW.trod] at h
 |fuel+1,h =>
 obtain ⟨xs,n,hn,rfl,hl,hlen,hf⟩:=DataW.trod_struct Tryz.underlying43 h
 obtain rfl:fuel=n:=by omega
 have hl13:cs.length=13:=hl.trans (by kernel_rfl);have hx8:xs.length=8:=hlen;obtain ⟨c0,c1,c2,c3,c4,c5,c6,c7,c8,c9,c10,c11,c12,rfl⟩:=list13 hl13;obtain ⟨y0,y1,y2,y3,y4,y5,y6,y7,rfl⟩:=list8 hx8
 have eI:Tryz.prog.cellsOf 3=1:=by kernel_rfl
 have eS:Tryz.prog.cellsOf 9=1:=by kernel_rfl
 have eB:Tryz.prog.cellsOf 4=1:=by kernel_rfl
 have eE:Tryz.prog.cellsOf 40=6:=by kernel_rfl
 have eA:Tryz.prog.cellsOf 23=1:=by kernel_rfl
 have eT:Tryz.prog.cellsOf 41=1:=by kernel_rfl
 have f0:DataW.trod enc Tryz.prog W 0 (λ _=>true) true fuel 3 [c0]=some y0:=by have h:=hf 0 _ rfl;simpa [eI,eS,eB,eE,eA,eT] using h
 have f1:DataW.trod enc Tryz.prog W 0 (λ _=>true) true fuel 9 [c1]=some y1:=by have h:=hf 1 _ rfl;simpa [eI,eS,eB,eE,eA,eT] using h
 have f2:DataW.trod enc Tryz.prog W 0 (λ _=>true) true fuel 3 [c2]=some y2:=by have h:=hf 2 _ rfl;simpa [eI,eS,eB,eE,eA,eT] using h
 have f3:DataW.trod enc Tryz.prog W 0 (λ _=>true) true fuel 4 [c3]=some y3:=by have h:=hf 3 _ rfl;simpa [eI,eS,eB,eE,eA,eT] using h
 have f4:DataW.trod enc Tryz.prog W 0 (λ _=>true) true fuel 40 [c4,c5,c6,c7,c8,c9]=some y4:=by have h:=hf 4 _ rfl;simpa [eI,eS,eB,eE,eA,eT] using h
 have f5:DataW.trod enc Tryz.prog W 0 (λ _=>true) true fuel 23 [c10]=some y5:=by have h:=hf 5 _ rfl;simpa [eI,eS,eB,eE,eA,eT] using h
 have f6:DataW.trod enc Tryz.prog W 0 (λ _=>true) true fuel 41 [c11]=some y6:=by have h:=hf 6 _ rfl;simpa [eI,eS,eB,eE,eA,eT] using h
 have f7:DataW.trod enc Tryz.prog W 0 (λ _=>true) true fuel 3 [c12]=some y7:=by have h:=hf 7 _ rfl;simpa [eI,eS,eB,eE,eA,eT] using h
 have hp:=parts_wt Tryz.underlying43 hw;clear h hf hl hlen hl13 hx8;obtain ⟨k,rfl,_⟩:=opn_int f0;obtain ⟨s,rfl,hs⟩:=opn_str f1 (λ m hm=>hp m (DataW.weights_mem_each (j:=1) rfl rfl _ hm));obtain ⟨wt,rfl,w1,w2⟩:=opn_int f2;obtain ⟨gd,rfl⟩:=opn_bool f3;obtain ⟨x,v,hc,hg,hr,hft,_⟩:=open_tree8 _ _ _ f4 (λ m hm=>hp m (DataW.weights_mem_each (j:=4) rfl rfl _ hm));obtain ⟨l,l1,l2,l3,l4⟩:=opn_acts f5 (λ m hm=>hp m (DataW.weights_mem_each (j:=5) rfl rfl _ hm));obtain ⟨q,q1,q2,q3,q4⟩:=opn_row Tryz.underlying41 (k:=1) (B:=16) (by kernel_rfl) (by kernel_rfl) (λ _=>rfl) (by decide) (λ n _=>opn_strs H enc W n) f6 (λ m hm=>hp m (DataW.weights_mem_each (j:=6) rfl rfl _ hm));obtain ⟨p,rfl,_⟩:=opn_int f7;unfold EV.cells at hc;simp only [List.cons.injEq,and_true] at hc;obtain ⟨rfl,rfl,rfl,rfl,rfl,rfl⟩:=hc
 have q1':DxAt W (dvStrs q) c11:=by
  unfold dvStrs
  have e:(q.flatMap λ s=>[DV.v (txV s)])=q.map (λ s=>DV.v (txV s)):=by
   clear q1 q2 q3 q4
   induction q with
   |nil=>rfl
   |cons a q ih=>rw [List.flatMap_cons,List.map_cons,ih];rfl
  rw [<-e];exact q1
 refine ⟨⟨k,s,wt,gd,x,l,q,p⟩,.v rfl (.v rfl (.v rfl (.v rfl (gEx_at hg (.cons l1 (.cons q1' (.v rfl (DxsAt.nil W)))))))),⟨⟨hs,⟨w1,w2⟩,hr,λ a ha=>(l2 a ha).1,q2⟩,hft,λ a ha=>(l2 a ha).2,l3,q3⟩,?_⟩;rw [sumL_one] at q4;simp only [GM.cnt,List.map_cons,List.map_nil,Rows.uptoBulk,Rows.uptoBulkAll];omega
theorem sum_split {α:Type} {P Q:α->Prop} {l:List α} (h:∀a∈l,P a/\Q a):(∀a∈l,P a)/\∀a∈l,Q a:=⟨λ a ha=>(h a ha).1,λ a ha=>(h a ha).2⟩
theorem opn_node:∀fuel:Nat,Opn enc W 27 gNode (λ a=>a.rng/\a.fit) GN.cnt fuel
 |0=>by
  intro cs y h hw;simp [DataW.trod] at h
 |fuel+1=>by
  intro cs y h hw;obtain ⟨xs,n,hn,rfl,hl,hlen,hf⟩:=DataW.trod_struct Tryz.underlying27 h
  obtain rfl:fuel=n:=by omega
  have hl9:cs.length=9:=hl.trans (by kernel_rfl);have hx9:xs.length=9:=hlen;obtain ⟨c0,c1,c2,c3,c4,c5,c6,c7,c8,rfl⟩:=list9 hl9;obtain ⟨y0,y1,y2,y3,y4,y5,y6,y7,y8,rfl⟩:=list9 hx9
  have eI:Tryz.prog.cellsOf 3=1:=by kernel_rfl
  have eS:Tryz.prog.cellsOf 9=1:=by kernel_rfl
  have eA:Tryz.prog.cellsOf 23=1:=by kernel_rfl
  have eM:Tryz.prog.cellsOf 24=1:=by kernel_rfl
  have eN:Tryz.prog.cellsOf 25=1:=by kernel_rfl
  have f0:DataW.trod enc Tryz.prog W 0 (λ _=>true) true fuel 3 [c0]=some y0:=by have h:=hf 0 _ rfl;simpa [eI,eS,eA,eM,eN] using h
  have f1:DataW.trod enc Tryz.prog W 0 (λ _=>true) true fuel 9 [c1]=some y1:=by have h:=hf 1 _ rfl;simpa [eI,eS,eA,eM,eN] using h
  have f2:DataW.trod enc Tryz.prog W 0 (λ _=>true) true fuel 9 [c2]=some y2:=by have h:=hf 2 _ rfl;simpa [eI,eS,eA,eM,eN] using h
  have f3:DataW.trod enc Tryz.prog W 0 (λ _=>true) true fuel 9 [c3]=some y3:=by have h:=hf 3 _ rfl;simpa [eI,eS,eA,eM,eN] using h
  have f4:DataW.trod enc Tryz.prog W 0 (λ _=>true) true fuel 23 [c4]=some y4:=by have h:=hf 4 _ rfl;simpa [eI,eS,eA,eM,eN] using h
  have f5:DataW.trod enc Tryz.prog W 0 (λ _=>true) true fuel 23 [c5]=some y5:=by have h:=hf 5 _ rfl;simpa [eI,eS,eA,eM,eN] using h
  have f6:DataW.trod enc Tryz.prog W 0 (λ _=>true) true fuel 24 [c6]=some y6:=by have h:=hf 6 _ rfl;simpa [eI,eS,eA,eM,eN] using h
  have f7:DataW.trod enc Tryz.prog W 0 (λ _=>true) true fuel 25 [c7]=some y7:=by have h:=hf 7 _ rfl;simpa [eI,eS,eA,eM,eN] using h
  have f8:DataW.trod enc Tryz.prog W 0 (λ _=>true) true fuel 3 [c8]=some y8:=by have h:=hf 8 _ rfl;simpa [eI,eS,eA,eM,eN] using h
  have hp:=parts_wt Tryz.underlying27 hw;clear h hf hl hlen hl9 hx9;obtain ⟨k,rfl,_⟩:=opn_int f0;obtain ⟨s1,rfl,hs1⟩:=opn_str f1 (λ m hm=>hp m (DataW.weights_mem_each (j:=1) rfl rfl _ hm));obtain ⟨s2,rfl,hs2⟩:=opn_str f2 (λ m hm=>hp m (DataW.weights_mem_each (j:=2) rfl rfl _ hm));obtain ⟨s3,rfl,hs3⟩:=opn_str f3 (λ m hm=>hp m (DataW.weights_mem_each (j:=3) rfl rfl _ hm));obtain ⟨en,e1,e2,e3,e4⟩:=opn_acts f4 (λ m hm=>hp m (DataW.weights_mem_each (j:=4) rfl rfl _ hm));obtain ⟨le,l1,l2,l3,l4⟩:=opn_acts f5 (λ m hm=>hp m (DataW.weights_mem_each (j:=5) rfl rfl _ hm));obtain ⟨mo,m1,m2,m3,m4⟩:=opn_row Tryz.underlying24 (k:=13) (B:=168) (by kernel_rfl) (by kernel_rfl) gMove_len (by decide) (λ n _=>opn_move n) f6 (λ m hm=>hp m (DataW.weights_mem_each (j:=6) rfl rfl _ hm));obtain ⟨ks,k1,k2,k3,k4⟩:=opn_row Tryz.underlying25 (k:=9) (B:=160) (by kernel_rfl) (by kernel_rfl) gNode_len (by decide) (λ n hn=>opn_node n) f7 (λ m hm=>hp m (DataW.weights_mem_each (j:=7) rfl rfl _ hm));obtain ⟨p,rfl,_⟩:=opn_int f8
  have k1':DxAt W (gKids ks) c7:=by
   unfold gKids;rw [gNodes_flat];exact k1
  refine ⟨.mk k s1 s2 s3 en le mo ks p,?_,⟨?_,?_⟩,?_⟩
  ·rw [gNode_mk];exact .v rfl (.v rfl (.v rfl (.v rfl (.cons e1 (.cons l1 (.cons (show DxAt W (gMoves mo) c6 from m1) (.cons k1' (.v rfl (DxsAt.nil W)))))))))
  ·rw [GN.rng];exact ⟨hs1,hs2,hs3,(sum_split e2).1,(sum_split l2).1,(sum_split m2).1,GN.rngs_iff.2 (sum_split k2).1⟩
  ·rw [GN.fit];exact ⟨(sum_split e2).2,(sum_split l2).2,(sum_split m2).2,e3,l3,m3,k3,GN.fits_iff.2 (sum_split k2).2⟩
  ·rw [GN.cnt,GN.cnts_sum];simp only [List.map_cons,List.map_nil,Rows.uptoBulk,Rows.uptoBulkAll];omega
 termination_by fuel=>fuel
def GC.cnt (c:GC):Nat:=c.vars.length+c.root.cnt
theorem opn_chart (fuel:Nat):Opn enc W 29 gChart (λ a=>a.rng/\a.fit) GC.cnt fuel:=by
 intro cs y h hw
 match fuel,h with
 |0,h=>simp [DataW.trod] at h
 |fuel+1,h =>
 obtain ⟨xs,n,hn,rfl,hl,hlen,hf⟩:=DataW.trod_struct Tryz.underlying29 h
 obtain rfl:fuel=n:=by omega
 have hl10:cs.length=10:=hl.trans (by kernel_rfl);have hx2:xs.length=2:=hlen;obtain ⟨c0,c1,c2,c3,c4,c5,c6,c7,c8,c9,rfl⟩:=list10g hl10;obtain ⟨y0,y1,rfl⟩:=list2 hx2
 have eV:Tryz.prog.cellsOf 22=1:=by kernel_rfl
 have eN:Tryz.prog.cellsOf 27=9:=by kernel_rfl
 have f0:DataW.trod enc Tryz.prog W 0 (λ _=>true) true fuel 22 [c0]=some y0:=by have h:=hf 0 _ rfl;simpa [eV,eN] using h
 have f1:DataW.trod enc Tryz.prog W 0 (λ _=>true) true fuel 27 [c1,c2,c3,c4,c5,c6,c7,c8,c9]=some y1:=by have h:=hf 1 _ rfl;simpa [eV,eN] using h
 have hp:=parts_wt Tryz.underlying29 hw;clear h hf hl hlen hl10 hx2;obtain ⟨vs,v1,v2,v3,v4⟩:=opn_row Tryz.underlying22 (k:=3) (B:=32) (by kernel_rfl) (by kernel_rfl) dvVar_len (by decide) (λ n _=>opn_var n) f0 (λ m hm=>hp m (DataW.weights_mem_each (j:=0) rfl rfl _ hm));obtain ⟨x,x1,⟨x2,x3⟩,x4⟩:=opn_node fuel _ _ f1 (λ m hm=>hp m (DataW.weights_mem_each (j:=1) rfl rfl _ hm));refine ⟨⟨vs,x⟩,.cons (show DxAt W (dvVars vs) c0 from v1) x1,⟨⟨v2,x2⟩,v3,x3⟩,?_⟩;rw [sumL_one] at v4;simp only [GC.cnt,List.map_cons,List.map_nil,Rows.uptoBulk,Rows.uptoBulkAll];omega
end
theorem fit_lenM {m:GM} (h:m.fit):m.len:=by
 have:=h.2.2.1;unfold GM.len;omega
mutual
theorem fit_lenN:∀x:GN,x.fit->x.len
 |.mk k nm ini dft en le mo ks p,h=>by
  rw [GN.fit] at h;obtain ⟨_,_,h3,h4,h5,h6,h7,h8⟩:=h;rw [GN.len];exact ⟨by omega,by omega,by omega,by omega,λ m hm=>fit_lenM (h3 m hm),fit_lenNs ks h8⟩
theorem fit_lenNs:∀l:List GN,GN.fits l->GN.lens l
 |[],_=>by rw [GN.lens];trivial
 |x::l,h=>by
  rw [GN.fits] at h;rw [GN.lens];exact ⟨fit_lenN x h.1,fit_lenNs l h.2⟩
end
theorem open_chart {H:Type} {enc:TypeId×Value->H} {W:World} {ts:List TypeId} {ds:List (DataW H)} (hsz:(DataW.weightsEach Tryz.prog ts ds).all (·<=reachBytes)=true) {j:Nat} (ht:ts[j]?=some 29)
  {cs:Array Value} {d:DataW H} {p:List MemPlace} (hd:ds[j]?=some d) (h:DataW.Trod enc Tryz.prog W 0 (λ _=>true) true 29 (.agg cs) d p) :
  ∃(c:GC) (xs:List Value),cs=xs.toArray/\DxsAt W (gChart c) xs/\c.rng/\c.fit/\c.cnt<=Rows.uptoBulk d:=by
 obtain ⟨fuel,hf⟩:=h
 obtain ⟨c,h1,⟨h2,h3⟩,h4⟩:=opn_chart fuel _ _ hf (λ m hm=>by
  have:=List.all_eq_true.1 hsz _ (DataW.weights_mem_each ht hd _ hm)
  exact of_decide_eq_true this)
 exact ⟨c,cs.toList,by simp,h1,h2,h3,h4⟩
end Go.Proofs.YtpgeidpfhakgaaaGreatDoor
