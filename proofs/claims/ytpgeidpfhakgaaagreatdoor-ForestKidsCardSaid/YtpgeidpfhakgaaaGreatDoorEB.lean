import Derived.Test.YtpgeidpfhakgaaaGreatDoorQh
import Derived.Test.YtpgeidpfhakgaaaGreatDoorEA
import Derived.Test.YtpgeidpfhakgaaaGreatDoorQXF
import Derived.Test.YtpgeidpfhakgaaaGreatDoorQScCuts
import Derived.Test.YtpgeidpfhakgaaaGreatDoorQXE
set_option maxHeartbeats 12800000
set_option maxRecDepth 20000
namespace Go.Proofs.YtpgeidpfhakgaaaGreatDoor
open Go.RowKit
def NX2 (w:World) (lo hi g g':Nat) (x:GX) (v:EV):Prop:=∀W':World,(∀i,lo<=i->i<hi->i≠g->i≠g'->W'.heap[i]?=w.heap[i]?)->GW W' lo hi x v
theorem NX2.gv {w:World} {lo hi g g':Nat} {x:GX} {v:EV} (h:NX2 w lo hi g g' x v):GW w lo hi x v:=h w (λ _ _ _ _ _=>rfl)
theorem NX2.new {W W':World} {lo g g':Nat} {x:GX} {v:EV} (h:GW W lo W.heap.size x v) (hb:Below W.heap.size W W') (hg:W.heap.size<=g) (hg':W.heap.size<=g'):NX2 W' lo W.heap.size g g' x v:=λ W'' hs =>
 h.same (λ i h1 h2=>(hs i h1 h2 (by omega) (by omega)).trans (hb.block i h2))
theorem NX2.mv {w w':World} {lo hi g g' b:Nat} {x:GX} {v:EV} (h:NX2 w lo hi g g' x v) (hm:Mv b w w') (hh:hi<=w.heap.size) (hb:b<lo∨b=g∨b=g'∨hi<=b):NX2 w' lo hi g g' x v:=λ W' hs =>
 h W' (λ i h1 h2 h3 h4=>(hs i h1 h2 h3 h4).trans (hm.block (by omega) (by omega)))
theorem NX2.below {w w':World} {lo hi g g':Nat} {x:GX} {v:EV} (h:NX2 w lo hi g g' x v) (hb:Below w.heap.size w w') (hh:hi<=w.heap.size):NX2 w' lo hi g g' x v:=λ W' hs =>
 h W' (λ i h1 h2 h3 h4=>(hs i h1 h2 h3 h4).trans (hb.block i (by omega)))
theorem NX2.both {W:World} {lo lo' hi g g':Nat} {x y:GX} {v u:EV} (hx:NX2 W lo hi g g' x v) (hhi:hi<=lo') (hy:GW W lo' W.heap.size y u) (hg:g<lo') (hg':g' < lo') (hlo:lo<=lo') (h5:lo'<=W.heap.size) (op p:Int) :
  NX2 (W.alloc (xob2 v u)) lo (W.heap.size+1) g g' (.mk 5 0 [] op [x,y] p) ⟨5,0,⟨#[]⟩,op,some ⟨W.heap.size,0,none⟩,2,2,p⟩:=λ W' hs=>by
 have ha:W'.heap[W.heap.size]?=some (xob2 v u):=(hs _ (by omega) (by omega) (by omega) (by omega)).trans (heap_alloc_new W _);have hs':∀i,lo<=i->i<W.heap.size->i≠g->i≠g'->W'.heap[i]?=W.heap[i]?:=λ i h1 h2 h3 h4=>(hs i h1 (by omega) h3 h4).trans (Below.heap_alloc W _ i h2);have h1:=(hx W' (λ i h1 h2 h3 h4=>hs' i h1 (by omega) h3 h4)).mono (hi':=lo') (n_ lo) hhi;have h2:=hy.same (λ i h1 h2=>hs' i (by omega) h2 (by omega) (by omega));unfold xob2 at ha;refine GW.both_of h1 h2 hlo h5 (by omega) ha ?_ ?_ op p
 ·exact ⟨cell_of_row W' _ 0 _ _ _ ha,cell_of_row W' _ 1 _ _ _ ha,cell_of_row W' _ 2 _ _ _ ha,cell_of_row W' _ 3 _ _ _ ha,cell_of_row W' _ 4 _ _ _ ha,cell_of_row W' _ 5 _ _ _ ha⟩
 ·exact ⟨cell_of_row W' _ 6 _ _ _ ha,cell_of_row W' _ 7 _ _ _ ha,cell_of_row W' _ 8 _ _ _ ha,cell_of_row W' _ 9 _ _ _ ha,cell_of_row W' _ 10 _ _ _ ha,cell_of_row W' _ 11 _ _ _ ha⟩
def LX (w':World) (lo b n c d g g':Nat) (A:Option Addr) (xs:List Tk) (v:EV):PR->Prop
 |.out=>False
 |.ok x r=>(∃hi,hi<=w'.heap.size/\NX2 w' lo hi g g' x.gx v)/\TkEnds r/\∃q,q<n/\xs.drop q=r/\PsB w' b A n c q d
 |.bad code _=>code≠0/\∃q,q<n/\PsB w' b A n c q d
theorem LX.new {W W':World} {lo b n c d g g':Nat} {A:Option Addr} {xs:List Tk} {v:EV} {e:PR} (h:PP W lo b n c d A xs v e) (hb:Below W.heap.size W W') (hg:W.heap.size<=g) (hg':W.heap.size<=g'):LX W' lo b n c d g g' A xs v e:=by
 cases e with
 |out=>exact absurd h (by intro h;exact h)
 |bad code q=>obtain ⟨hc,q',hq,hr⟩:=h;exact ⟨hc,q',hq,hr.below hb⟩
 |ok x r=>obtain ⟨hv,he,q',hq,hx,hr⟩:=h;exact ⟨⟨W.heap.size,hb.size,NX2.new hv hb hg hg'⟩,he,q',hq,hx,hr.below hb⟩
theorem LX.both {W W':World} {lo lo' hi b n c d g g':Nat} {A:Option Addr} {xs:List Tk} {v u:EV} {x:Ex} {e:PR} (hx:NX2 W lo hi g g' x.gx v) (hhi:hi<=lo') (h:PP W lo' b n c d A xs u e) (hg:g<lo') (hg':g' < lo') (hlo:lo<=lo') (h5:lo'<=W.heap.size) (op:Int)
  (hm:Mv g (W.alloc (xob2 v u)) W') (hbg:b≠g):LX W' lo b n c d g g' A xs ⟨5,0,⟨#[]⟩,op,some ⟨W.heap.size,0,none⟩,2,2,v.p⟩ (e.andThen λ y r=>.ok (.both op x y) r):=by
 cases e with
 |out=>exact absurd h (by intro h;exact h)
 |bad code q=>obtain ⟨hc,q',hq,hr⟩:=h;exact ⟨hc,q',hq,(hr.alloc _).mv hm hbg⟩
 |ok y r =>
  obtain ⟨hv,he,q',hq,hd,hr⟩:=h
  have hz:(W.alloc (xob2 v u)).heap.size=W.heap.size+1:=by simp
  have hz':=World.grownBy.size hm;refine ⟨⟨W.heap.size+1,by omega,?_⟩,he,q',hq,hd,(hr.alloc _).mv hm hbg⟩;have hp:=hx.gv.gv.pos;rw [gx_p] at hp;have h1:=hx.both hhi hv hg hg' hlo h5 op v.p;show NX2 W' lo (W.heap.size+1) g g' (.mk 5 0 [] op [x.gx,y.gx] x.pos) _;rw [<-hp];exact h1.mv hm (by omega) (.inr (.inl rfl))
theorem PP.put {W W':World} {g lo b n c d:Nat} {A:Option Addr} {xs:List Tk} {v:EV} {e:PR} (h:PP W lo b n c d A xs v e) (hm:Mv g W W') (hg:g<lo) (hb:b≠g):PP W' lo b n c d A xs v e:=by
 cases e with
 |out=>exact absurd h (by intro h;exact h)
 |bad code q=>obtain ⟨hc,q',hq,hr⟩:=h;exact ⟨hc,q',hq,hr.mv hm hb⟩
 |ok x r=>obtain ⟨hv,he,q',hq,hx,hr⟩:=h;exact ⟨hv.mv hm hg,he,q',hq,hx,hr.mv hm hb⟩
theorem andThen_code (e:PR) (g:Ex->List Tk->Ex):(e.andThen λ y r=>.ok (g y r) r).code=e.code/\(e.andThen λ y r=>.ok (g y r) r).pt=e.pt:=by cases e <;> exact ⟨rfl,rfl⟩
structure Lin (w:World) (b j g1 g2 g3 go:Nat) (u:Value):Prop where
 n1:g1≠b
 n2:g2≠b
 n3:g3≠b
 no:go≠b
 c1:w.cell? ⟨g1,0,none⟩=some u
 c2:w.cell? ⟨g2,0,none⟩=some (.pointer (some ⟨b,0,none⟩))
 c3:w.cell? ⟨g3,0,none⟩=some (.slice (some ⟨go,0,none⟩) (rowOps (5-j)).length (rowOps (5-j)).length)
 co:∀(i:Nat) (o:List UInt8×Int),(rowOps (5-j))[i]?=some o->w.cell? ⟨go,i,none⟩=some (.int .i64 o.2)
 ru:Rule w b j u
theorem Lin.mv {w w':World} {b j g1 g2 g3 go:Nat} {u:Value} (h:Lin w b j g1 g2 g3 go u) (hm:Mv b w w'):Lin w' b j g1 g2 g3 go u :=
 ⟨h.n1,h.n2,h.n3,h.no,hm.cell h.c1 h.n1,hm.cell h.c2 h.n2,hm.cell h.c3 h.n3,λ i o ho=>hm.cell (h.co i o ho) h.no,h.ru.mv hm⟩
def PLine (m j:Nat):Prop:=∀(w:World) (b n c q d:Nat) (A:Option Addr) (xs r:List Tk) (g1 g2 g3 go:Nat) (u:Value),r.length<=m->Pst w b n c q d A xs r->Lin w b j g1 g2 g3 go u ->
  Calls Tryz.prog 260 #[.pointer (some ⟨g1,0,none⟩),.pointer (some ⟨g2,0,none⟩),.pointer (some ⟨g3,0,none⟩)] w (PRet w b n c d A xs (Pf (5-j) d r))
def POper (m k f:Nat) (args:Array Value) (w:World) (b n c d:Nat) (A:Option Addr) (xs:List Tk):Prop:=∀(W:World) (q:Nat) (r:List Tk),r.length<=m->Mv b w W->Pst W b n c q d A xs r ->
  Calls Tryz.prog f args W (PRet W b n c d A xs (Pf k d r))
theorem line_one_any (m j:Nat) (hj:j<6) (w:World) (b n c q d:Nat) (A:Option Addr) (xs r:List Tk) (g1 g2 g3 go:Nat) (hm:r.length<=m) (h:Pst w b n c q d A xs r) (hl:Lin w b j g1 g2 g3 go (.func (.func 256) #[.pointer (some ⟨b,0,none⟩)] #[]))
  (hop:POper m (5-j+1) 256 #[.pointer (some ⟨b,0,none⟩)] w b n c d A xs) :
  Calls Tryz.prog 260 #[.pointer (some ⟨g1,0,none⟩),.pointer (some ⟨g2,0,none⟩),.pointer (some ⟨g3,0,none⟩)] w (PRet w b n c d A xs (Pf (5-j) d r)):=by
 obtain ⟨k,hk⟩:∃k,5-j=k:=⟨_,rfl⟩
 have hk6:k<6:=by omega
 have HL:=h_ (λ (W:World) (hm:Mv b w W)=>hl.mv hm);rw [hk] at hop ⊢;obtain ⟨W0,p1,p2,hW0,hp1,hp2,HX,HF,HB0,hp1w,hp2w,hp12,hp10,hp20⟩:=ret_cells w;have hbw:=h.ps.lt
 have hp1b:p1≠b:=by omega
 have hp2b:p2≠b:=by omega
 have hbW0:b<W0.heap.size:=by have:=HB0.out.size;omega
 have hwW0:w.heap.size<=W0.heap.size:=HB0.out.size;have HM0:=h_ (Mv.of b HB0.out);unfold POper PRet at hop;have HOP:=h_ hop;have HC0:=h_ (hop W0 q r hm HM0.out (h.below HB0.out));have HH:=h_ h;have hn9:=h.n9;have HMM:=h_ hm
 obtain ⟨len,hlen⟩:∃len,(rowOps k).length=len:=⟨_,rfl⟩
 have HLEN:=h_ hlen
 have HL3:Hid (∀(W:World),Mv b w W->W.cell? ⟨g3,0,none⟩=some (.slice (some ⟨go,0,none⟩) len len)):=λ W hm=>by
  have:=(HL.out W hm).c3;rw [hk,hlen] at this;exact this
 have HLO:Hid (∀(W:World),Mv b w W->∀(i:Nat) (o:List UInt8×Int),(rowOps k)[i]?=some o->W.cell? ⟨go,i,none⟩=some (.int .i64 o.2)):=λ W hm i o ho=>by
  rw [<-hk] at ho;exact (HL.out W hm).co i o ho
 have HAW:=h_ (λ (W:World) (hm:Mv b w W)=>h.tk.mv hm h.ab);have HVW:=h_ (λ (W:World) (hm:Mv b w W)=>h.vs.mv h.ps hm);have l1:=(HL.out W0 HM0.out).c1;clear h hl hop hm hlen;unfold PRet;go_enter Tryz.func260,Tryz.ntmps260;go_upto_region 1 with fail;rw [<-hW0,<-hp2,<-hp1];clear hW0 hp1 hp2;go_wp2_with fail;refine HC0.out.mono ?_;rintro e w3 ⟨v,rfl,hpp,hm⟩;have hvv:v.val=.agg #[.int .i64 v.kind,.int .i64 v.num,.string v.name,.int .i64 v.op,.slice v.A v.len v.cap,.int .i64 v.p]:=rfl;rw [hvv];unfold ftP ftV
 obtain ⟨E,hE⟩:∃E,E=Pf (k+1) d r:=⟨_,rfl⟩
 rw [<-hE] at hpp ⊢
 obtain ⟨gx,hgx⟩:∃gx,gx=w3.heap.size:=⟨_,rfl⟩
 obtain ⟨gf,hgf⟩:∃gf,gf=w3.heap.size+1:=⟨_,rfl⟩
 obtain ⟨W4,hW4⟩:∃W4,W4=(w3.alloc (xob v)).alloc (.cells #[.int .i64 E.code,.int .i64 E.pt] 59):=⟨_,rfl⟩
 have hb4:Below w3.heap.size w3 W4:=by rw [hW4];exact ((b_ _ w3).alloc (n_ _) _).alloc (by simp) _
 have HV4:Hid (XpB W4 gx v):=by rw [hW4,hgx];exact (XpB.new w3 v).alloc _
 have HC4:Hid (FtB W4 gf (.int .i64 E.code) (.int .i64 E.pt)):=by
  rw [hW4,hgf]
  have e:(w3.alloc (xob v)).heap.size=w3.heap.size+1:=by simp
  rw [<-e];exact FtB.new _ _ _
 have HX4:=h_ ((HX.out.mv hm hp1b).below hb4);have HF4:=h_ ((HF.out.mv hm hp2b).below hb4);have HM4:=h_ ((HM0.out.trans hm).trans (Mv.of b hb4));have HLX4:Hid (LX W4 W0.heap.size b n c d gx gf A xs v E):=LX.new hpp hb4 (by omega) (by omega);have hs3:=World.grownBy.size hm
 have hx1:¬gx=p1:=by omega
 have hx2:¬gx=p2:=by omega
 have hf1:¬gf=p1:=by omega
 have hf2:¬gf=p2:=by omega
 have hxf:¬gx=gf:=by omega
 have hfx:¬gf=gx:=by omega
 have hxb:¬gx=b:=by omega
 have hfb:¬gf=b:=by omega
 have h1x:¬p1=gx:=by omega
 have h1f:¬p1=gf:=by omega
 have h2x:¬p2=gx:=by omega
 have h2f:¬p2=gf:=by omega
 have hx0:W0.heap.size<=gx:=by omega
 have hf0:W0.heap.size<=gf:=by omega
 have hfw:w.heap.size<=gf:=by omega
 have HPF:Hid (Pf k d r=E.andThen λ z r'=>Pm k d z r'):=by show _=_;rw [hE];exact Pf_row hk6 d r
 have HLE:Hid (∀x r',E=.ok x r'->r'.length<=m):=λ x r' e=>by
  rw [hE] at e;have:=Pf_len e;have:=HMM.out;omega
 unfold xob at hW4;clear hpp hm hvv hb4 HC0 HX HF HM0 hE l1;go_upto_region 2 with fail;rw [<-hW4,<-hgf,<-hgx];clear hW4 hgf hgx
 go_loopw [] (λ wr=>∃(v:EV) (e:PR),Hid (XpB wr gx v)/\Hid (FtB wr gf (.int .i64 e.code) (.int .i64 e.pt))/\Hid (XpB wr p1 ev0)/\Hid (FtB wr p2 (.int .i64 0) (.int .i64 0))/\Hid (Mv b w wr)/\Hid (LX wr W0.heap.size b n c d gx gf A xs v e)/\Hid (Pf k d r=e.andThen λ z r'=>Pm k d z r')/\Hid (∀x r',e=.ok x r'->r'.length<=m)) (λ wr=>if intOf ((wr.cell? ⟨gf,0,none⟩).getD undef)=0 then n+1-(intOf ((wr.cell? ⟨b,1,none⟩).getD undef)).toNat else 0)
 case atStart=>exact ⟨v,E,HV4,HC4,HX4,HF4,HM4,HLX4,HPF,HLE⟩
 case round =>
  clear HV4 HC4 HX4 HF4 HM4 HLX4 HPF HLE;obtain ⟨v,e,HV,HC,HX,HF,HM,HLX,HPF,HLE⟩:=hrel;have y0:=HC.out.c0;have y1:=HC.out.c1
  cases e with
  |out=>exact absurd HLX.out (by intro h;exact h)
  |bad cc pp =>
   obtain ⟨hcc,q3,hq3,hp3⟩:=HLX.out;have HP4:=h_ hp3;have HCC:=h_ (And.intro hcc hq3);have hwn:(cc==0)=false:=beq_eq_false_iff_ne.2 hcc;simp only [PR.code,PR.pt] at y0 y1;have a0:=HX.out.c0;have a1:=HX.out.c1;have a2:=HX.out.c2;have a3:=HX.out.c3;have a4:=HX.out.c4;have a5:=HX.out.c5;have f0:=HX.out.fr 0;have f1:=HX.out.fr 1;have f2:=HX.out.fr 2;have f3:=HX.out.fr 3;have f4:=HX.out.fr 4;have f5:=HX.out.fr 5;have k0:=HF.out.c0;have k1:=HF.out.c1;have j0:=HF.out.fr 0;have j1:=HF.out.fr 1;clear hp3 hcc hq3;go_wp2_with fail
   go_region
   go_wp2_with fail
   obtain ⟨W9,hW9⟩:∃W,W=res2 wr p1 p2 ev0 cc pp:=⟨_,rfl⟩
   have HS:XpB W9 p1 ev0:=by rw [hW9];exact res2_x HX.out hp12 ev0 cc pp
   have HS':FtB W9 p2 (.int .i64 cc) (.int .i64 pp):=by rw [hW9];exact res2_f HF.out hp12 ev0 cc pp
   have HP:Mv b w W9:=by rw [hW9];exact res2_mv HM.out hp1w hp2w ev0 cc pp
   have HQ:PP W9 w.heap.size b n c d A xs ev0 (Pf k d r):=by
    rw [hW9];rw [HPF.out];exact ⟨HCC.out.1,q3,HCC.out.2,res2_ps HP4.out (Ne.symm hp1b) (Ne.symm hp2b) _ _ _⟩
   unfold res2 two six at hW9;dsimp only [ev0] at hW9;rw [<-hW9];clear hW9;refine bodyPost_ret (XpB.res2 (w:=W9.drew) (v:=ev0) rfl _ rfl rfl HS HS') rfl ?_;exact ⟨ev0,by rw [HPF.out];rfl,HQ.below (b_ _ W9).drew,HP.drew⟩
  |ok x rs =>
   obtain ⟨⟨hi,hhi,hnx⟩,hends,q3,hq3,hdr,hp3⟩:=HLX.out;obtain ⟨t,rs,rfl⟩:=ends_cons hends;obtain ⟨ht,hql,hdr1⟩:=drop_get hdr;simp only [PR.code,PR.pt] at y0 y1 HC;have l2:=(HL.out wr HM.out).c2;have l3:=HL3.out wr HM.out
   have HTK:Hid (Calls Tryz.prog 261 #[.pointer (some ⟨b,0,none⟩),.slice (some ⟨go,0,none⟩) len len] wr λ e w' =>
     e=.returned (.int .i64 (opAt k [t]))/\PsB w' b A n c (opQ k q3 t) d/\Mv b wr w'):=by
    have:=takeOp_any wr b n c q3 d k go A xs t hp3 (HAW.out wr HM.out) ht (HVW.out wr HM.out).sg hk6 (by omega) (HLO.out wr HM.out);rw [HLEN.out] at this;exact this
   obtain ⟨N,hN⟩:∃N,opAt k [t]=N:=⟨_,rfl⟩
   rw [hN] at HTK;have HNX:=h_ hnx;have HQ0:=h_ HC.out.c0;have HQ3:=h_ (And.intro hq3 (And.intro hends (And.intro hdr hdr1)));have HP3:=h_ hp3;have hNt:opAt k (t::rs)=N:=hN;have HN:=h_ (And.intro hN hNt);clear hnx hends hdr hql hdr1 hp3 ht hN hNt;go_upto_region 4 with fail;refine HTK.out.mono ?_;rintro e w4 ⟨rfl,hp4,hm4⟩;have HV4:=h_ (HV.out.mv hm4 hxb);have HC4:=h_ (HC.out.mv hm4 hfb);have HX4:=h_ (HX.out.mv hm4 hp1b);have HF4:=h_ (HF.out.mv hm4 hp2b);have HM4:=h_ (HM.out.trans hm4);have HNX4:=h_ (HNX.out.mv hm4 hhi (.inl hbW0))
   have hhi4:hi<=w4.heap.size:=by have:=World.grownBy.size hm4;omega
   have HP4:=h_ hp4;clear HV HC HX HF HM HNX hm4 hp4 HTK HLX y0 y1 l2 l3
   by_cases h0:N=0
   ·subst h0
    have HP5:Hid (PsB w4 b A n c q3 d):=by
     have:=HP4.out;unfold opQ at this;rw [if_pos HN.out.1] at this;exact this
    have a0:=HX4.out.c0;have a1:=HX4.out.c1;have a2:=HX4.out.c2;have a3:=HX4.out.c3;have a4:=HX4.out.c4;have a5:=HX4.out.c5;have f0:=HX4.out.fr 0;have f1:=HX4.out.fr 1;have f2:=HX4.out.fr 2;have f3:=HX4.out.fr 3;have f4:=HX4.out.fr 4;have f5:=HX4.out.fr 5;have k0:=HF4.out.c0;have k1:=HF4.out.c1;have j0:=HF4.out.fr 0;have j1:=HF4.out.fr 1;have z0:=HV4.out.c0;have z1:=HV4.out.c1;have z2:=HV4.out.c2;have z3:=HV4.out.c3;have z4:=HV4.out.c4;have z5:=HV4.out.c5
    have HEQ:Hid (Pf k d r=.ok x (t::rs)):=by
     show _=_;rw [HPF.out];exact opN_none hk6 HN.out.2
    go_wp2_with fail
    obtain ⟨W9,hW9⟩:∃W,W=res2 w4 p1 p2 v 0 0:=⟨_,rfl⟩
    have HS:XpB W9 p1 v:=by rw [hW9];exact res2_x HX4.out hp12 v 0 0
    have HS':FtB W9 p2 (.int .i64 0) (.int .i64 0):=by rw [hW9];exact res2_f HF4.out hp12 v 0 0
    have HP:Mv b w W9:=by rw [hW9];exact res2_mv HM4.out hp1w hp2w v 0 0
    have HQ:PP W9 w.heap.size b n c d A xs v (Pf k d r):=by
     rw [hW9];rw [HEQ.out];exact ⟨res2_gv (HNX4.out.gv.mono (n_ _) hhi4) hp10 hp20 hwW0 _ _ _,HQ3.out.2.1,q3,HQ3.out.1,HQ3.out.2.2.1,res2_ps HP5.out (Ne.symm hp1b) (Ne.symm hp2b) _ _ _⟩
    unfold res2 two six at hW9;rw [<-hW9];clear hW9;refine bodyPost_ret (XpB.res2 (w:=W9) (v:=v) rfl _ rfl rfl HS HS') rfl ?_;exact ⟨v,by rw [HEQ.out];rfl,HQ,HP⟩
   ·have hb0:(N==0)=false:=by simpa using h0
    have htk:t.kind≠5:=by rw [opAt_sign (k:=k) (r:=rs) (by rw [HN.out.2];exact h0)];decide
    have HP5:Hid (PsB w4 b A n c (q3+1) d):=by
     have:=HP4.out;unfold opQ at this;rw [if_neg (by rw [HN.out.1];exact h0)] at this;exact this
    have HEN:=h_ (HQ3.out.2.1.tail htk)
    have hrs:rs.length<=m:=by have:=HLE.out x _ rfl;simp only [List.length_cons] at this;omega
    obtain ⟨g8,hg8⟩:∃g8,g8=w4.heap.size:=⟨_,rfl⟩
    obtain ⟨W8,hW8⟩:∃W8,W8=w4.alloc (.cells #[.int .i64 0,.int .i64 0,.string ⟨#[]⟩,.int .i64 0,.slice none 0 0,.int .i64 0] 40):=⟨_,rfl⟩
    have hb8:Below w4.heap.size w4 W8:=by rw [hW8];exact (b_ _ w4).alloc (n_ _) _
    have HY8:Hid (XpB W8 g8 ev0):=by rw [hW8,hg8];exact XpB.new w4 ev0
    have HV8:=h_ (HV4.out.below hb8);have HC8:=h_ (HC4.out.below hb8);have HX8:=h_ (HX4.out.below hb8);have HF8:=h_ (HF4.out.below hb8);have HM8:=h_ (HM4.out.trans (Mv.of b hb8));have HNX8:=h_ (HNX4.out.below hb8 hhi4);have HP8:=h_ (HP5.out.below hb8);have hs8:=World.grownBy.size HM4.out;have hx4:=HV4.out.lt;have hf4:=HC4.out.lt
    have h8b:¬g8=b:=by omega
    have h8x:¬g8=gx:=by omega
    have h8f:¬g8=gf:=by omega
    have h81:¬g8=p1:=by have:=HX4.out.lt;omega
    have h82:¬g8=p2:=by have:=HF4.out.lt;omega
    have hx8:¬gx=g8:=by omega
    have hf8:¬gf=g8:=by omega
    have h88:g8<W8.heap.size:=HY8.out.lt
    have h8w:w.heap.size<=g8:=by omega
    have hhi8:hi<=g8:=by omega
    have hs48:=hb8.size
    have hgx8:gx<W8.heap.size:=by omega
    have hgf8:gf<W8.heap.size:=by omega
    have hW08:W0.heap.size<=W8.heap.size:=by omega
    have HD:=h_ (HOP.out W8 (q3+1) rs hrs HM8.out (HH.out.mv HM8.out HP8.out HQ3.out.2.2.2 HEN.out HH.out.d20));have l1:=(HL.out W8 HM8.out).c1;clear hb8 HV4 HC4 HX4 HF4 HM4 HNX4 HP4 HP5 hrs htk;go_upto_region 7 with fail;rw [<-hW8,<-hg8];clear hW8 hg8;go_upto_region 8 with fail;refine HD.out.mono ?_;rintro e w9 ⟨u,rfl,hpp,hm⟩;have hvv:u.val=.agg #[.int .i64 u.kind,.int .i64 u.num,.string u.name,.int .i64 u.op,.slice u.A u.len u.cap,.int .i64 u.p]:=rfl;rw [hvv]
    obtain ⟨e2,he2⟩:∃e2,e2=Pf (k+1) d rs:=⟨_,rfl⟩
    rw [<-he2] at hpp ⊢;unfold ftP ftV;have HY9:=h_ (HY8.out.mv hm h8b);have HV9:=h_ (HV8.out.mv hm hxb);have HC9:=h_ (HC8.out.mv hm hfb);have HX9:=h_ (HX8.out.mv hm hp1b);have HF9:=h_ (HF8.out.mv hm hp2b);have HM9:=h_ (HM8.out.trans hm);have HNX9:=h_ (HNX8.out.mv hm (by omega) (.inl hbW0));have HPP9:=h_ hpp;have HE2:=h_ he2;have hs9:=World.grownBy.size hm;have a0:=HY9.out.c0;have a1:=HY9.out.c1;have a2:=HY9.out.c2;have a3:=HY9.out.c3;have a4:=HY9.out.c4;have a5:=HY9.out.c5;have f0:=HY9.out.fr 0;have f1:=HY9.out.fr 1;have f2:=HY9.out.fr 2;have f3:=HY9.out.fr 3;have f4:=HY9.out.fr 4;have f5:=HY9.out.fr 5;have k0:=HC9.out.c0;have k1:=HC9.out.c1;have j0:=HC9.out.fr 0;have j1:=HC9.out.fr 1;clear hpp hm hvv he2 HY8 HV8 HC8 HX8 HF8 HM8 HNX8 HP8 HD l1
    obtain ⟨W10,hW10⟩:∃W,W=two (six w9 g8 u) gf e2.code e2.pt:=⟨_,rfl⟩
    have HY10:Hid (XpB W10 g8 u):=by rw [hW10];exact (HY9.out.all u).mv (two_mv _ gf _ _) h8f
    have HV10:Hid (XpB W10 gx v):=by rw [hW10];exact (HV9.out.mv (six_mv w9 g8 u) hx8).mv (two_mv _ gf _ _) hxf
    have HC10:Hid (FtB W10 gf (.int .i64 e2.code) (.int .i64 e2.pt)):=by rw [hW10];exact (HC9.out.mv (six_mv w9 g8 u) hf8).two _ _
    have HX10:Hid (XpB W10 p1 ev0):=by rw [hW10];exact (HX9.out.mv (six_mv w9 g8 u) (Ne.symm h81)).mv (two_mv _ gf _ _) h1f
    have HF10:Hid (FtB W10 p2 (.int .i64 0) (.int .i64 0)):=by rw [hW10];exact (HF9.out.mv (six_mv w9 g8 u) (Ne.symm h82)).mv (two_mv _ gf _ _) h2f
    have HM10:Hid (Mv b w W10):=by rw [hW10];exact two_put (six_put HM9.out h8w u) hfw _ _
    have HPP10:Hid (PP W10 W8.heap.size b n c d A xs u e2):=by rw [hW10];exact (HPP9.out.put (six_mv w9 g8 u) h88 (Ne.symm h8b)).put (two_mv _ gf _ _) hgf8 (Ne.symm hfb)
    have hsz10:W10.heap.size=w9.heap.size:=by rw [hW10];rw [two_sz,six_size]
    have hhi9:hi<=w9.heap.size:=by omega
    have HNX10:Hid (NX2 W10 W0.heap.size hi gx gf x.gx v):=by rw [hW10];exact (HNX9.out.mv (six_mv w9 g8 u) hhi9 (.inr (.inr (.inr hhi8)))).mv (two_mv _ gf _ _) (by rw [six_size];exact hhi9) (.inr (.inr (.inl rfl)))
    unfold two six at hW10;go_upto_region 8 with fail;rw [<-hW10];clear hW10 HY9 HV9 HC9 HX9 HF9 HM9 HNX9 HPP9 a0 a1 a2 a3 a4 a5 f0 f1 f2 f3 f4 f5 k0 k1 j0 j1
    have HQC:Hid (intOf ((wr.cell? ⟨gf,0,none⟩).getD undef)=0):=by
     show _=_;rw [HQ0.out];rfl
    have HQ1:=h_ HP3.out.c1
    obtain ⟨W11,hW11⟩:∃W,W=six (W10.alloc (xob2 v u)) gx ⟨5,0,⟨#[]⟩,N,some ⟨W10.heap.size,0,none⟩,2,2,v.p⟩:=⟨_,rfl⟩
    have hm11:Mv gx (W10.alloc (xob2 v u)) W11:=by rw [hW11];exact six_mv _ gx _
    have HV11:Hid (XpB W11 gx ⟨5,0,⟨#[]⟩,N,some ⟨W10.heap.size,0,none⟩,2,2,v.p⟩):=by rw [hW11];exact (HV10.out.alloc _).all _
    have HC11:Hid (FtB W11 gf (.int .i64 e2.code) (.int .i64 e2.pt)):=(HC10.out.alloc _).mv hm11 hfx;have HX11:Hid (XpB W11 p1 ev0):=(HX10.out.alloc _).mv hm11 h1x;have HF11:Hid (FtB W11 p2 (.int .i64 0) (.int .i64 0)):=(HF10.out.alloc _).mv hm11 h2x
    have HM11:Hid (Mv b w W11):=by rw [hW11];exact six_put (HM10.out.trans (Mv.of b ((b_ _ W10).alloc (n_ _) (xob2 v u)))) (by omega) _
    have HLX11:Hid (LX W11 W0.heap.size b n c d gx gf A xs ⟨5,0,⟨#[]⟩,N,some ⟨W10.heap.size,0,none⟩,2,2,v.p⟩ (e2.andThen λ y r'=>.ok (.both N x y) r')) :=
     LX.both HNX10.out (by omega) HPP10.out hgx8 hgf8 hW08 (by omega) N hm11 (Ne.symm hxb)
    have HPF11:Hid (Pf k d r=(e2.andThen λ y r'=>.ok (.both N x y) r').andThen λ z r'=>Pm k d z r'):=by
     have h1:Pf k d r=Pm k d x (t::rs):=HPF.out
     have h2:opN k (.ok x (t::rs))≠0:=by show opAt k (t::rs)≠0;rw [HN.out.2];exact h0
     rw [opN_more hk6 h2] at h1;show _=_;rw [h1,HE2.out];show _=((Pf (k+1) d rs).andThen λ y r'=>PR.ok (.both N x y) r').andThen _;have h3:opN k (.ok x (t::rs))=N:=HN.out.2;rw [h3];rfl
    have hl:∀z r',(e2.andThen λ y r'=>PR.ok (.both N x y) r')=.ok z r'->r'.length<rs.length:=λ z r' h=>by
     obtain ⟨y,r1,h1,h2⟩:=PR.andThen_ok h;injection h2 with _ h2;rw [<-h2];rw [HE2.out] at h1;exact Pf_len h1
    have HLE11:Hid (∀z r',(e2.andThen λ y r'=>PR.ok (.both N x y) r')=.ok z r'->r'.length<=m):=λ z r' h=>by
     have h1:=hl z r' h;have h2:=HLE.out x _ rfl;simp only [List.length_cons] at h2;omega
    have hcd:=(andThen_code e2 (λ y _=>.both N x y))
    have HC11':Hid (FtB W11 gf (.int .i64 (e2.andThen λ y r'=>PR.ok (.both N x y) r').code) (.int .i64 (e2.andThen λ y r'=>PR.ok (.both N x y) r').pt)):=by
     rw [hcd.1,hcd.2];exact HC11.out
    have HLL:=h_ hl;have hV10:∀ob:Obj,XpB (W10.alloc ob) gx v:=λ ob=>HV10.out.alloc ob;have b0:=HV10.out.c0;have b1:=HV10.out.c1;have b2:=HV10.out.c2;have b3:=HV10.out.c3;have b4:=HV10.out.c4;have b5:=HV10.out.c5;have z0:=HY10.out.c0;have z1:=HY10.out.c1;have z2:=HY10.out.c2;have z3:=HY10.out.c3;have z4:=HY10.out.c4;have z5:=HY10.out.c5;have j0:=λ ob=>(hV10 ob).c0;have j1:=λ ob=>(hV10 ob).c1;have j2:=λ ob=>(hV10 ob).c2;have j3:=λ ob=>(hV10 ob).c3;have j4:=λ ob=>(hV10 ob).c4;have j5:=λ ob=>(hV10 ob).c5;have f0:=λ ob=>(hV10 ob).fr 0;have f1:=λ ob=>(hV10 ob).fr 1;have f2:=λ ob=>(hV10 ob).fr 2;have f3:=λ ob=>(hV10 ob).fr 3;have f4:=λ ob=>(hV10 ob).fr 4;have f5:=λ ob=>(hV10 ob).fr 5;clear hm11 hl hcd hV10 HC11 hsz10;unfold six xob2 at hW11;dsimp only at hW11;go_wp2_with fail;rw [<-hW11];clear hW11
    go_roundw
    case rel=>exact ⟨_,_,HV11,HC11',HX11,HF11,HM11,HLX11,HPF11,HLE11⟩
    case measure =>
     rw [if_pos HQC.out,HQ1.out];have h3:=HLX11.out;have h4:=HC11'.out.c0;rw [h4];generalize (e2.andThen λ y r'=>PR.ok (.both N x y) r')=E at h3 HLL ⊢
     cases E with
     |out=>exact absurd h3 (by intro h;exact h)
     |bad cc pp =>
      rw [if_neg (show ¬intOf (((some (Value.int .i64 (PR.bad cc pp).code)):Option Value).getD undef)=0 from h3.1)];have:=HQ3.out.1;simp [intOf];omega
     |ok z rz =>
      obtain ⟨_,_,q2,hq2,hd2,hr2⟩:=h3;rw [if_pos (show intOf (((some (Value.int .i64 (PR.ok z rz).code)):Option Value).getD undef)=0 from rfl),hr2.c1];have hlz:=HLL.out z rz rfl;have d1:=congrArg List.length HQ3.out.2.2.1;have d2:=congrArg List.length hd2;rw [List.length_drop] at d1 d2;simp only [List.length_cons] at d1;simp [intOf];omega
theorem line_line_any (m j:Nat) (hj:j<6) (w:World) (b n c q d:Nat) (A:Option Addr) (xs r:List Tk) (g1 g2 g3 go h1 h2 h3:Nat) (hm:r.length<=m) (h:Pst w b n c q d A xs r) (hl:Lin w b j g1 g2 g3 go (.func (.func 260) #[] #[.pointer (some ⟨h1,0,none⟩),.pointer (some ⟨h2,0,none⟩),.pointer (some ⟨h3,0,none⟩)]))
  (hop:POper m (5-j+1) 260 #[.pointer (some ⟨h1,0,none⟩),.pointer (some ⟨h2,0,none⟩),.pointer (some ⟨h3,0,none⟩)] w b n c d A xs) :
  Calls Tryz.prog 260 #[.pointer (some ⟨g1,0,none⟩),.pointer (some ⟨g2,0,none⟩),.pointer (some ⟨g3,0,none⟩)] w (PRet w b n c d A xs (Pf (5-j) d r)):=by
 obtain ⟨k,hk⟩:∃k,5-j=k:=⟨_,rfl⟩
 have hk6:k<6:=by omega
 have HL:=h_ (λ (W:World) (hm:Mv b w W)=>hl.mv hm);rw [hk] at hop ⊢;obtain ⟨W0,p1,p2,hW0,hp1,hp2,HX,HF,HB0,hp1w,hp2w,hp12,hp10,hp20⟩:=ret_cells w;have hbw:=h.ps.lt
 have hp1b:p1≠b:=by omega
 have hp2b:p2≠b:=by omega
 have hbW0:b<W0.heap.size:=by have:=HB0.out.size;omega
 have hwW0:w.heap.size<=W0.heap.size:=HB0.out.size;have HM0:=h_ (Mv.of b HB0.out);unfold POper PRet at hop;have HOP:=h_ hop;have HC0:=h_ (hop W0 q r hm HM0.out (h.below HB0.out));have HH:=h_ h;have hn9:=h.n9;have HMM:=h_ hm
 obtain ⟨len,hlen⟩:∃len,(rowOps k).length=len:=⟨_,rfl⟩
 have HLEN:=h_ hlen
 have HL3:Hid (∀(W:World),Mv b w W->W.cell? ⟨g3,0,none⟩=some (.slice (some ⟨go,0,none⟩) len len)):=λ W hm=>by
  have:=(HL.out W hm).c3;rw [hk,hlen] at this;exact this
 have HLO:Hid (∀(W:World),Mv b w W->∀(i:Nat) (o:List UInt8×Int),(rowOps k)[i]?=some o->W.cell? ⟨go,i,none⟩=some (.int .i64 o.2)):=λ W hm i o ho=>by
  rw [<-hk] at ho;exact (HL.out W hm).co i o ho
 have HAW:=h_ (λ (W:World) (hm:Mv b w W)=>h.tk.mv hm h.ab);have HVW:=h_ (λ (W:World) (hm:Mv b w W)=>h.vs.mv h.ps hm);have l1:=(HL.out W0 HM0.out).c1;clear h hl hop hm hlen;unfold PRet;go_enter Tryz.func260,Tryz.ntmps260;go_upto_region 1 with fail;rw [<-hW0,<-hp2,<-hp1];clear hW0 hp1 hp2;go_wp2_with fail;refine HC0.out.mono ?_;rintro e w3 ⟨v,rfl,hpp,hm⟩;have hvv:v.val=.agg #[.int .i64 v.kind,.int .i64 v.num,.string v.name,.int .i64 v.op,.slice v.A v.len v.cap,.int .i64 v.p]:=rfl;rw [hvv];unfold ftP ftV
 obtain ⟨E,hE⟩:∃E,E=Pf (k+1) d r:=⟨_,rfl⟩
 rw [<-hE] at hpp ⊢
 obtain ⟨gx,hgx⟩:∃gx,gx=w3.heap.size:=⟨_,rfl⟩
 obtain ⟨gf,hgf⟩:∃gf,gf=w3.heap.size+1:=⟨_,rfl⟩
 obtain ⟨W4,hW4⟩:∃W4,W4=(w3.alloc (xob v)).alloc (.cells #[.int .i64 E.code,.int .i64 E.pt] 59):=⟨_,rfl⟩
 have hb4:Below w3.heap.size w3 W4:=by rw [hW4];exact ((b_ _ w3).alloc (n_ _) _).alloc (by simp) _
 have HV4:Hid (XpB W4 gx v):=by rw [hW4,hgx];exact (XpB.new w3 v).alloc _
 have HC4:Hid (FtB W4 gf (.int .i64 E.code) (.int .i64 E.pt)):=by
  rw [hW4,hgf]
  have e:(w3.alloc (xob v)).heap.size=w3.heap.size+1:=by simp
  rw [<-e];exact FtB.new _ _ _
 have HX4:=h_ ((HX.out.mv hm hp1b).below hb4);have HF4:=h_ ((HF.out.mv hm hp2b).below hb4);have HM4:=h_ ((HM0.out.trans hm).trans (Mv.of b hb4));have HLX4:Hid (LX W4 W0.heap.size b n c d gx gf A xs v E):=LX.new hpp hb4 (by omega) (by omega);have hs3:=World.grownBy.size hm
 have hx1:¬gx=p1:=by omega
 have hx2:¬gx=p2:=by omega
 have hf1:¬gf=p1:=by omega
 have hf2:¬gf=p2:=by omega
 have hxf:¬gx=gf:=by omega
 have hfx:¬gf=gx:=by omega
 have hxb:¬gx=b:=by omega
 have hfb:¬gf=b:=by omega
 have h1x:¬p1=gx:=by omega
 have h1f:¬p1=gf:=by omega
 have h2x:¬p2=gx:=by omega
 have h2f:¬p2=gf:=by omega
 have hx0:W0.heap.size<=gx:=by omega
 have hf0:W0.heap.size<=gf:=by omega
 have hfw:w.heap.size<=gf:=by omega
 have HPF:Hid (Pf k d r=E.andThen λ z r'=>Pm k d z r'):=by show _=_;rw [hE];exact Pf_row hk6 d r
 have HLE:Hid (∀x r',E=.ok x r'->r'.length<=m):=λ x r' e=>by
  rw [hE] at e;have:=Pf_len e;have:=HMM.out;omega
 unfold xob at hW4;clear hpp hm hvv hb4 HC0 HX HF HM0 hE l1;go_upto_region 2 with fail;rw [<-hW4,<-hgf,<-hgx];clear hW4 hgf hgx
 go_loopw [] (λ wr=>∃(v:EV) (e:PR),Hid (XpB wr gx v)/\Hid (FtB wr gf (.int .i64 e.code) (.int .i64 e.pt))/\Hid (XpB wr p1 ev0)/\Hid (FtB wr p2 (.int .i64 0) (.int .i64 0))/\Hid (Mv b w wr)/\Hid (LX wr W0.heap.size b n c d gx gf A xs v e)/\Hid (Pf k d r=e.andThen λ z r'=>Pm k d z r')/\Hid (∀x r',e=.ok x r'->r'.length<=m)) (λ wr=>if intOf ((wr.cell? ⟨gf,0,none⟩).getD undef)=0 then n+1-(intOf ((wr.cell? ⟨b,1,none⟩).getD undef)).toNat else 0)
 case atStart=>exact ⟨v,E,HV4,HC4,HX4,HF4,HM4,HLX4,HPF,HLE⟩
 case round =>
  clear HV4 HC4 HX4 HF4 HM4 HLX4 HPF HLE;obtain ⟨v,e,HV,HC,HX,HF,HM,HLX,HPF,HLE⟩:=hrel;have y0:=HC.out.c0;have y1:=HC.out.c1
  cases e with
  |out=>exact absurd HLX.out (by intro h;exact h)
  |bad cc pp =>
   obtain ⟨hcc,q3,hq3,hp3⟩:=HLX.out;have HP4:=h_ hp3;have HCC:=h_ (And.intro hcc hq3);have hwn:(cc==0)=false:=beq_eq_false_iff_ne.2 hcc;simp only [PR.code,PR.pt] at y0 y1;have a0:=HX.out.c0;have a1:=HX.out.c1;have a2:=HX.out.c2;have a3:=HX.out.c3;have a4:=HX.out.c4;have a5:=HX.out.c5;have f0:=HX.out.fr 0;have f1:=HX.out.fr 1;have f2:=HX.out.fr 2;have f3:=HX.out.fr 3;have f4:=HX.out.fr 4;have f5:=HX.out.fr 5;have k0:=HF.out.c0;have k1:=HF.out.c1;have j0:=HF.out.fr 0;have j1:=HF.out.fr 1;clear hp3 hcc hq3;go_wp2_with fail
   go_region
   go_wp2_with fail
   obtain ⟨W9,hW9⟩:∃W,W=res2 wr p1 p2 ev0 cc pp:=⟨_,rfl⟩
   have HS:XpB W9 p1 ev0:=by rw [hW9];exact res2_x HX.out hp12 ev0 cc pp
   have HS':FtB W9 p2 (.int .i64 cc) (.int .i64 pp):=by rw [hW9];exact res2_f HF.out hp12 ev0 cc pp
   have HP:Mv b w W9:=by rw [hW9];exact res2_mv HM.out hp1w hp2w ev0 cc pp
   have HQ:PP W9 w.heap.size b n c d A xs ev0 (Pf k d r):=by
    rw [hW9];rw [HPF.out];exact ⟨HCC.out.1,q3,HCC.out.2,res2_ps HP4.out (Ne.symm hp1b) (Ne.symm hp2b) _ _ _⟩
   unfold res2 two six at hW9;dsimp only [ev0] at hW9;rw [<-hW9];clear hW9;refine bodyPost_ret (XpB.res2 (w:=W9.drew) (v:=ev0) rfl _ rfl rfl HS HS') rfl ?_;exact ⟨ev0,by rw [HPF.out];rfl,HQ.below (b_ _ W9).drew,HP.drew⟩
  |ok x rs =>
   obtain ⟨⟨hi,hhi,hnx⟩,hends,q3,hq3,hdr,hp3⟩:=HLX.out;obtain ⟨t,rs,rfl⟩:=ends_cons hends;obtain ⟨ht,hql,hdr1⟩:=drop_get hdr;simp only [PR.code,PR.pt] at y0 y1 HC;have l2:=(HL.out wr HM.out).c2;have l3:=HL3.out wr HM.out
   have HTK:Hid (Calls Tryz.prog 261 #[.pointer (some ⟨b,0,none⟩),.slice (some ⟨go,0,none⟩) len len] wr λ e w' =>
     e=.returned (.int .i64 (opAt k [t]))/\PsB w' b A n c (opQ k q3 t) d/\Mv b wr w'):=by
    have:=takeOp_any wr b n c q3 d k go A xs t hp3 (HAW.out wr HM.out) ht (HVW.out wr HM.out).sg hk6 (by omega) (HLO.out wr HM.out);rw [HLEN.out] at this;exact this
   obtain ⟨N,hN⟩:∃N,opAt k [t]=N:=⟨_,rfl⟩
   rw [hN] at HTK;have HNX:=h_ hnx;have HQ0:=h_ HC.out.c0;have HQ3:=h_ (And.intro hq3 (And.intro hends (And.intro hdr hdr1)));have HP3:=h_ hp3;have hNt:opAt k (t::rs)=N:=hN;have HN:=h_ (And.intro hN hNt);clear hnx hends hdr hql hdr1 hp3 ht hN hNt;go_upto_region 4 with fail;refine HTK.out.mono ?_;rintro e w4 ⟨rfl,hp4,hm4⟩;have HV4:=h_ (HV.out.mv hm4 hxb);have HC4:=h_ (HC.out.mv hm4 hfb);have HX4:=h_ (HX.out.mv hm4 hp1b);have HF4:=h_ (HF.out.mv hm4 hp2b);have HM4:=h_ (HM.out.trans hm4);have HNX4:=h_ (HNX.out.mv hm4 hhi (.inl hbW0))
   have hhi4:hi<=w4.heap.size:=by have:=World.grownBy.size hm4;omega
   have HP4:=h_ hp4;clear HV HC HX HF HM HNX hm4 hp4 HTK HLX y0 y1 l2 l3
   by_cases h0:N=0
   ·subst h0
    have HP5:Hid (PsB w4 b A n c q3 d):=by
     have:=HP4.out;unfold opQ at this;rw [if_pos HN.out.1] at this;exact this
    have a0:=HX4.out.c0;have a1:=HX4.out.c1;have a2:=HX4.out.c2;have a3:=HX4.out.c3;have a4:=HX4.out.c4;have a5:=HX4.out.c5;have f0:=HX4.out.fr 0;have f1:=HX4.out.fr 1;have f2:=HX4.out.fr 2;have f3:=HX4.out.fr 3;have f4:=HX4.out.fr 4;have f5:=HX4.out.fr 5;have k0:=HF4.out.c0;have k1:=HF4.out.c1;have j0:=HF4.out.fr 0;have j1:=HF4.out.fr 1;have z0:=HV4.out.c0;have z1:=HV4.out.c1;have z2:=HV4.out.c2;have z3:=HV4.out.c3;have z4:=HV4.out.c4;have z5:=HV4.out.c5
    have HEQ:Hid (Pf k d r=.ok x (t::rs)):=by
     show _=_;rw [HPF.out];exact opN_none hk6 HN.out.2
    go_wp2_with fail
    obtain ⟨W9,hW9⟩:∃W,W=res2 w4 p1 p2 v 0 0:=⟨_,rfl⟩
    have HS:XpB W9 p1 v:=by rw [hW9];exact res2_x HX4.out hp12 v 0 0
    have HS':FtB W9 p2 (.int .i64 0) (.int .i64 0):=by rw [hW9];exact res2_f HF4.out hp12 v 0 0
    have HP:Mv b w W9:=by rw [hW9];exact res2_mv HM4.out hp1w hp2w v 0 0
    have HQ:PP W9 w.heap.size b n c d A xs v (Pf k d r):=by
     rw [hW9];rw [HEQ.out];exact ⟨res2_gv (HNX4.out.gv.mono (n_ _) hhi4) hp10 hp20 hwW0 _ _ _,HQ3.out.2.1,q3,HQ3.out.1,HQ3.out.2.2.1,res2_ps HP5.out (Ne.symm hp1b) (Ne.symm hp2b) _ _ _⟩
    unfold res2 two six at hW9;rw [<-hW9];clear hW9;refine bodyPost_ret (XpB.res2 (w:=W9) (v:=v) rfl _ rfl rfl HS HS') rfl ?_;exact ⟨v,by rw [HEQ.out];rfl,HQ,HP⟩
   ·have hb0:(N==0)=false:=by simpa using h0
    have htk:t.kind≠5:=by rw [opAt_sign (k:=k) (r:=rs) (by rw [HN.out.2];exact h0)];decide
    have HP5:Hid (PsB w4 b A n c (q3+1) d):=by
     have:=HP4.out;unfold opQ at this;rw [if_neg (by rw [HN.out.1];exact h0)] at this;exact this
    have HEN:=h_ (HQ3.out.2.1.tail htk)
    have hrs:rs.length<=m:=by have:=HLE.out x _ rfl;simp only [List.length_cons] at this;omega
    obtain ⟨g8,hg8⟩:∃g8,g8=w4.heap.size:=⟨_,rfl⟩
    obtain ⟨W8,hW8⟩:∃W8,W8=w4.alloc (.cells #[.int .i64 0,.int .i64 0,.string ⟨#[]⟩,.int .i64 0,.slice none 0 0,.int .i64 0] 40):=⟨_,rfl⟩
    have hb8:Below w4.heap.size w4 W8:=by rw [hW8];exact (b_ _ w4).alloc (n_ _) _
    have HY8:Hid (XpB W8 g8 ev0):=by rw [hW8,hg8];exact XpB.new w4 ev0
    have HV8:=h_ (HV4.out.below hb8);have HC8:=h_ (HC4.out.below hb8);have HX8:=h_ (HX4.out.below hb8);have HF8:=h_ (HF4.out.below hb8);have HM8:=h_ (HM4.out.trans (Mv.of b hb8));have HNX8:=h_ (HNX4.out.below hb8 hhi4);have HP8:=h_ (HP5.out.below hb8);have hs8:=World.grownBy.size HM4.out;have hx4:=HV4.out.lt;have hf4:=HC4.out.lt
    have h8b:¬g8=b:=by omega
    have h8x:¬g8=gx:=by omega
    have h8f:¬g8=gf:=by omega
    have h81:¬g8=p1:=by have:=HX4.out.lt;omega
    have h82:¬g8=p2:=by have:=HF4.out.lt;omega
    have hx8:¬gx=g8:=by omega
    have hf8:¬gf=g8:=by omega
    have h88:g8<W8.heap.size:=HY8.out.lt
    have h8w:w.heap.size<=g8:=by omega
    have hhi8:hi<=g8:=by omega
    have hs48:=hb8.size
    have hgx8:gx<W8.heap.size:=by omega
    have hgf8:gf<W8.heap.size:=by omega
    have hW08:W0.heap.size<=W8.heap.size:=by omega
    have HD:=h_ (HOP.out W8 (q3+1) rs hrs HM8.out (HH.out.mv HM8.out HP8.out HQ3.out.2.2.2 HEN.out HH.out.d20));have l1:=(HL.out W8 HM8.out).c1;clear hb8 HV4 HC4 HX4 HF4 HM4 HNX4 HP4 HP5 hrs htk;go_upto_region 7 with fail;rw [<-hW8,<-hg8];clear hW8 hg8;go_upto_region 8 with fail;refine HD.out.mono ?_;rintro e w9 ⟨u,rfl,hpp,hm⟩;have hvv:u.val=.agg #[.int .i64 u.kind,.int .i64 u.num,.string u.name,.int .i64 u.op,.slice u.A u.len u.cap,.int .i64 u.p]:=rfl;rw [hvv]
    obtain ⟨e2,he2⟩:∃e2,e2=Pf (k+1) d rs:=⟨_,rfl⟩
    rw [<-he2] at hpp ⊢;unfold ftP ftV;have HY9:=h_ (HY8.out.mv hm h8b);have HV9:=h_ (HV8.out.mv hm hxb);have HC9:=h_ (HC8.out.mv hm hfb);have HX9:=h_ (HX8.out.mv hm hp1b);have HF9:=h_ (HF8.out.mv hm hp2b);have HM9:=h_ (HM8.out.trans hm);have HNX9:=h_ (HNX8.out.mv hm (by omega) (.inl hbW0));have HPP9:=h_ hpp;have HE2:=h_ he2;have hs9:=World.grownBy.size hm;have a0:=HY9.out.c0;have a1:=HY9.out.c1;have a2:=HY9.out.c2;have a3:=HY9.out.c3;have a4:=HY9.out.c4;have a5:=HY9.out.c5;have f0:=HY9.out.fr 0;have f1:=HY9.out.fr 1;have f2:=HY9.out.fr 2;have f3:=HY9.out.fr 3;have f4:=HY9.out.fr 4;have f5:=HY9.out.fr 5;have k0:=HC9.out.c0;have k1:=HC9.out.c1;have j0:=HC9.out.fr 0;have j1:=HC9.out.fr 1;clear hpp hm hvv he2 HY8 HV8 HC8 HX8 HF8 HM8 HNX8 HP8 HD l1
    obtain ⟨W10,hW10⟩:∃W,W=two (six w9 g8 u) gf e2.code e2.pt:=⟨_,rfl⟩
    have HY10:Hid (XpB W10 g8 u):=by rw [hW10];exact (HY9.out.all u).mv (two_mv _ gf _ _) h8f
    have HV10:Hid (XpB W10 gx v):=by rw [hW10];exact (HV9.out.mv (six_mv w9 g8 u) hx8).mv (two_mv _ gf _ _) hxf
    have HC10:Hid (FtB W10 gf (.int .i64 e2.code) (.int .i64 e2.pt)):=by rw [hW10];exact (HC9.out.mv (six_mv w9 g8 u) hf8).two _ _
    have HX10:Hid (XpB W10 p1 ev0):=by rw [hW10];exact (HX9.out.mv (six_mv w9 g8 u) (Ne.symm h81)).mv (two_mv _ gf _ _) h1f
    have HF10:Hid (FtB W10 p2 (.int .i64 0) (.int .i64 0)):=by rw [hW10];exact (HF9.out.mv (six_mv w9 g8 u) (Ne.symm h82)).mv (two_mv _ gf _ _) h2f
    have HM10:Hid (Mv b w W10):=by rw [hW10];exact two_put (six_put HM9.out h8w u) hfw _ _
    have HPP10:Hid (PP W10 W8.heap.size b n c d A xs u e2):=by rw [hW10];exact (HPP9.out.put (six_mv w9 g8 u) h88 (Ne.symm h8b)).put (two_mv _ gf _ _) hgf8 (Ne.symm hfb)
    have hsz10:W10.heap.size=w9.heap.size:=by rw [hW10];rw [two_sz,six_size]
    have hhi9:hi<=w9.heap.size:=by omega
    have HNX10:Hid (NX2 W10 W0.heap.size hi gx gf x.gx v):=by rw [hW10];exact (HNX9.out.mv (six_mv w9 g8 u) hhi9 (.inr (.inr (.inr hhi8)))).mv (two_mv _ gf _ _) (by rw [six_size];exact hhi9) (.inr (.inr (.inl rfl)))
    unfold two six at hW10;go_upto_region 8 with fail;rw [<-hW10];clear hW10 HY9 HV9 HC9 HX9 HF9 HM9 HNX9 HPP9 a0 a1 a2 a3 a4 a5 f0 f1 f2 f3 f4 f5 k0 k1 j0 j1
    have HQC:Hid (intOf ((wr.cell? ⟨gf,0,none⟩).getD undef)=0):=by
     show _=_;rw [HQ0.out];rfl
    have HQ1:=h_ HP3.out.c1
    obtain ⟨W11,hW11⟩:∃W,W=six (W10.alloc (xob2 v u)) gx ⟨5,0,⟨#[]⟩,N,some ⟨W10.heap.size,0,none⟩,2,2,v.p⟩:=⟨_,rfl⟩
    have hm11:Mv gx (W10.alloc (xob2 v u)) W11:=by rw [hW11];exact six_mv _ gx _
    have HV11:Hid (XpB W11 gx ⟨5,0,⟨#[]⟩,N,some ⟨W10.heap.size,0,none⟩,2,2,v.p⟩):=by rw [hW11];exact (HV10.out.alloc _).all _
    have HC11:Hid (FtB W11 gf (.int .i64 e2.code) (.int .i64 e2.pt)):=(HC10.out.alloc _).mv hm11 hfx;have HX11:Hid (XpB W11 p1 ev0):=(HX10.out.alloc _).mv hm11 h1x;have HF11:Hid (FtB W11 p2 (.int .i64 0) (.int .i64 0)):=(HF10.out.alloc _).mv hm11 h2x
    have HM11:Hid (Mv b w W11):=by rw [hW11];exact six_put (HM10.out.trans (Mv.of b ((b_ _ W10).alloc (n_ _) (xob2 v u)))) (by omega) _
    have HLX11:Hid (LX W11 W0.heap.size b n c d gx gf A xs ⟨5,0,⟨#[]⟩,N,some ⟨W10.heap.size,0,none⟩,2,2,v.p⟩ (e2.andThen λ y r'=>.ok (.both N x y) r')) :=
     LX.both HNX10.out (by omega) HPP10.out hgx8 hgf8 hW08 (by omega) N hm11 (Ne.symm hxb)
    have HPF11:Hid (Pf k d r=(e2.andThen λ y r'=>.ok (.both N x y) r').andThen λ z r'=>Pm k d z r'):=by
     have h1:Pf k d r=Pm k d x (t::rs):=HPF.out
     have h2:opN k (.ok x (t::rs))≠0:=by show opAt k (t::rs)≠0;rw [HN.out.2];exact h0
     rw [opN_more hk6 h2] at h1;show _=_;rw [h1,HE2.out];show _=((Pf (k+1) d rs).andThen λ y r'=>PR.ok (.both N x y) r').andThen _;have h3:opN k (.ok x (t::rs))=N:=HN.out.2;rw [h3];rfl
    have hl:∀z r',(e2.andThen λ y r'=>PR.ok (.both N x y) r')=.ok z r'->r'.length<rs.length:=λ z r' h=>by
     obtain ⟨y,r1,h1,h2⟩:=PR.andThen_ok h;injection h2 with _ h2;rw [<-h2];rw [HE2.out] at h1;exact Pf_len h1
    have HLE11:Hid (∀z r',(e2.andThen λ y r'=>PR.ok (.both N x y) r')=.ok z r'->r'.length<=m):=λ z r' h=>by
     have h1:=hl z r' h;have h2:=HLE.out x _ rfl;simp only [List.length_cons] at h2;omega
    have hcd:=(andThen_code e2 (λ y _=>.both N x y))
    have HC11':Hid (FtB W11 gf (.int .i64 (e2.andThen λ y r'=>PR.ok (.both N x y) r').code) (.int .i64 (e2.andThen λ y r'=>PR.ok (.both N x y) r').pt)):=by
     rw [hcd.1,hcd.2];exact HC11.out
    have HLL:=h_ hl;have hV10:∀ob:Obj,XpB (W10.alloc ob) gx v:=λ ob=>HV10.out.alloc ob;have b0:=HV10.out.c0;have b1:=HV10.out.c1;have b2:=HV10.out.c2;have b3:=HV10.out.c3;have b4:=HV10.out.c4;have b5:=HV10.out.c5;have z0:=HY10.out.c0;have z1:=HY10.out.c1;have z2:=HY10.out.c2;have z3:=HY10.out.c3;have z4:=HY10.out.c4;have z5:=HY10.out.c5;have j0:=λ ob=>(hV10 ob).c0;have j1:=λ ob=>(hV10 ob).c1;have j2:=λ ob=>(hV10 ob).c2;have j3:=λ ob=>(hV10 ob).c3;have j4:=λ ob=>(hV10 ob).c4;have j5:=λ ob=>(hV10 ob).c5;have f0:=λ ob=>(hV10 ob).fr 0;have f1:=λ ob=>(hV10 ob).fr 1;have f2:=λ ob=>(hV10 ob).fr 2;have f3:=λ ob=>(hV10 ob).fr 3;have f4:=λ ob=>(hV10 ob).fr 4;have f5:=λ ob=>(hV10 ob).fr 5;clear hm11 hl hcd hV10 HC11 hsz10;unfold six xob2 at hW11;dsimp only at hW11;go_wp2_with fail;rw [<-hW11];clear hW11
    go_roundw
    case rel=>exact ⟨_,_,HV11,HC11',HX11,HF11,HM11,HLX11,HPF11,HLE11⟩
    case measure =>
     rw [if_pos HQC.out,HQ1.out];have h3:=HLX11.out;have h4:=HC11'.out.c0;rw [h4];generalize (e2.andThen λ y r'=>PR.ok (.both N x y) r')=E at h3 HLL ⊢
     cases E with
     |out=>exact absurd h3 (by intro h;exact h)
     |bad cc pp =>
      rw [if_neg (show ¬intOf (((some (Value.int .i64 (PR.bad cc pp).code)):Option Value).getD undef)=0 from h3.1)];have:=HQ3.out.1;simp [intOf];omega
     |ok z rz =>
      obtain ⟨_,_,q2,hq2,hd2,hr2⟩:=h3;rw [if_pos (show intOf (((some (Value.int .i64 (PR.ok z rz).code)):Option Value).getD undef)=0 from rfl),hr2.c1];have hlz:=HLL.out z rz rfl;have d1:=congrArg List.length HQ3.out.2.2.1;have d2:=congrArg List.length hd2;rw [List.length_drop] at d1 d2;simp only [List.length_cons] at d1;simp [intOf];omega
theorem pline_zero {m:Nat} (IH:POne m):PLine m 0:=by
 intro w b n c q d A xs r g1 g2 g3 go u hm h hl;have hu:u=.func (.func 256) #[.pointer (some ⟨b,0,none⟩)] #[]:=hl.ru;subst hu;refine line_one_any m 0 (by omega) w b n c q d A xs r g1 g2 g3 go hm h hl ?_;intro W q' r' hm' _ hW;have:=IH W b n c q' d A xs r' hm' hW;rw [<-Pf_six] at this;exact this
theorem pline_succ {m j:Nat} (hj:j<5) (IH:PLine m j):PLine m (j+1):=by
 intro w b n c q d A xs r g1 g2 g3 go u hm h hl;obtain ⟨u',h1,h2,h3,go',hu,⟨n1,n2,n3,n4⟩,c1,c2,c3,c4,hr⟩:=hl.ru;subst hu
 have hl':Lin w b j h1 h2 h3 go' u':=⟨n1,n2,n3,n4,c1,c2,c3,c4,hr⟩
 refine line_line_any m (j+1) (by omega) w b n c q d A xs r g1 g2 g3 go h1 h2 h3 hm h hl ?_;intro W q' r' hm' hmv hW;have:=IH W b n c q' d A xs r' h1 h2 h3 go' u' hm' hW (hl'.mv hmv);rw [show 5-(j+1)+1=5-j from by omega];exact this
theorem pline_all {m:Nat} (IH:POne m):∀j,j<6->PLine m j
 |0,_=>pline_zero IH
 |j+1,h=>pline_succ (by omega) (pline_all IH j (by omega))
theorem rule_lin {w:World} {b j:Nat} {v:Value} (h:Rule w b (j+1) v):∃(u:Value) (g1 g2 g3 go:Nat),v=.func (.func 260) #[] #[.pointer (some ⟨g1,0,none⟩),.pointer (some ⟨g2,0,none⟩),.pointer (some ⟨g3,0,none⟩)]/\Lin w b j g1 g2 g3 go u:=by
 obtain ⟨u,g1,g2,g3,go,e,⟨n1,n2,n3,n4⟩,c1,c2,c3,c4,hr⟩:=h;exact ⟨u,g1,g2,g3,go,e,n1,n2,n3,n4,c1,c2,c3,c4,hr⟩
theorem Rule.below {w w':World} {b j:Nat} {v:Value} (h:Rule w b j v) (hb:Below w.heap.size w w'):Rule w' b j v:=h.mv (Mv.of b hb)
theorem nums_new (w:World) (k:Nat) (cs:Array Value) (T:TypeId) (hcs:cs=((rowOps k).map λ o=>Value.int .i64 o.2).toArray):∀(i:Nat) (o:List UInt8×Int),(rowOps k)[i]?=some o->(w.alloc (.cells cs T)).cell? ⟨w.heap.size,i,none⟩=some (.int .i64 o.2):=λ i o ho=>by
 rw [cell_of_row _ _ i _ _ _ (heap_alloc_new w _),hcs];simp [ho]
theorem exp_any {m:Nat} (IH:POne m):PExp m:=by
 intro w b n c q d A xs r hm h;obtain ⟨W0,g1,g2,hW0,hg1,hg2,HX,HF,HB0,hg1w,hg2w,hg12,hg10,hg20⟩:=ret_cells w;have hbw:=h.ps.lt
 have hg1b:g1≠b:=by omega
 have hg2b:g2≠b:=by omega
 have hbW0:b<W0.heap.size:=by have:=HB0.out.size;omega
 have hwW0:w.heap.size<=W0.heap.size:=HB0.out.size;have HLN:=h_ (pline_all IH 5 (by omega));have HH:=h_ h;have HMM:=h_ hm;have HBB:Hid (Below W0.heap.size W0 W0):=b_ _ _;have hmf:∀(fn:Fn) (first cap:Array Value) (w:World),(Instr.makeFunc fn first cap).run Tryz.prog w=.ok (.func fn first cap) w:=λ _ _ _ _=>rfl;have HR0:Hid (Rule W0 b 0 (.func (.func 256) #[.pointer (some ⟨b,0,none⟩)] #[])):=rfl;clear h hm IH;unfold PRet;go_enter Tryz.func242,Tryz.ntmps242;go_upto_region 1 with fail;rw [<-hW0,<-hg2,<-hg1];clear hW0 hg1 hg2;have HN1:Hid (∀(i:Nat) (o:List UInt8×Int),(rowOps (5-0))[i]?=some o->(W0.alloc (.cells #[.int .i64 3,.int .i64 4,.int .i64 5] 3)).cell? ⟨W0.heap.size,i,none⟩=some (.int .i64 o.2)):=nums_new W0 5 _ _ rfl;have HA1:Hid (Below W0.heap.size W0 (W0.alloc (.cells #[.int .i64 3,.int .i64 4,.int .i64 5] 3))):=(b_ _ _).alloc (n_ _) _;have hsz1:W0.heap.size<=W0.heap.size:=HBB.out.size;have HC1:=h_ (rule_any (W0.alloc (.cells #[.int .i64 3,.int .i64 4,.int .i64 5] 3)) b W0.heap.size 0 _ (HR0.out.below HA1.out) (by have:=HA1.out.size;omega) (by omega) HN1.out);go_wp2_with fail;refine HC1.out.mono ?_;rintro e w1 ⟨v1,rfl,hr,hb⟩;have HR1:=h_ hr;have HB1:Hid (Below W0.heap.size W0 w1):=(HBB.out.trans (HA1.out.mono hsz1)).trans (hb.mono (Nat.le_trans hsz1 HA1.out.size));clear hr hb HC1 HN1 HA1 HR0 HBB;have HN2:Hid (∀(i:Nat) (o:List UInt8×Int),(rowOps (5-1))[i]?=some o->(w1.alloc (.cells #[.int .i64 1,.int .i64 2] 3)).cell? ⟨w1.heap.size,i,none⟩=some (.int .i64 o.2)):=nums_new w1 4 _ _ rfl;have HA2:Hid (Below w1.heap.size w1 (w1.alloc (.cells #[.int .i64 1,.int .i64 2] 3))):=(b_ _ _).alloc (n_ _) _;have hsz2:W0.heap.size<=w1.heap.size:=HB1.out.size;have HC2:=h_ (rule_any (w1.alloc (.cells #[.int .i64 1,.int .i64 2] 3)) b w1.heap.size 1 _ (HR1.out.below HA2.out) (by have:=HA2.out.size;omega) (by omega) HN2.out);go_wp2_with fail;refine HC2.out.mono ?_;rintro e w2 ⟨v2,rfl,hr,hb⟩;have HR2:=h_ hr;have HB2:Hid (Below W0.heap.size W0 w2):=(HB1.out.trans (HA2.out.mono hsz2)).trans (hb.mono (Nat.le_trans hsz2 HA2.out.size));clear hr hb HC2 HN2 HA2 HR1 HB1;have HN3:Hid (∀(i:Nat) (o:List UInt8×Int),(rowOps (5-2))[i]?=some o->(w2.alloc (.cells #[.int .i64 6,.int .i64 7,.int .i64 8,.int .i64 9] 3)).cell? ⟨w2.heap.size,i,none⟩=some (.int .i64 o.2)):=nums_new w2 3 _ _ rfl;have HA3:Hid (Below w2.heap.size w2 (w2.alloc (.cells #[.int .i64 6,.int .i64 7,.int .i64 8,.int .i64 9] 3))):=(b_ _ _).alloc (n_ _) _;have hsz3:W0.heap.size<=w2.heap.size:=HB2.out.size;have HC3:=h_ (rule_any (w2.alloc (.cells #[.int .i64 6,.int .i64 7,.int .i64 8,.int .i64 9] 3)) b w2.heap.size 2 _ (HR2.out.below HA3.out) (by have:=HA3.out.size;omega) (by omega) HN3.out);go_wp2_with fail;refine HC3.out.mono ?_;rintro e w3 ⟨v3,rfl,hr,hb⟩;have HR3:=h_ hr;have HB3:Hid (Below W0.heap.size W0 w3):=(HB2.out.trans (HA3.out.mono hsz3)).trans (hb.mono (Nat.le_trans hsz3 HA3.out.size));clear hr hb HC3 HN3 HA3 HR2 HB2;have HN4:Hid (∀(i:Nat) (o:List UInt8×Int),(rowOps (5-3))[i]?=some o->(w3.alloc (.cells #[.int .i64 10,.int .i64 11] 3)).cell? ⟨w3.heap.size,i,none⟩=some (.int .i64 o.2)):=nums_new w3 2 _ _ rfl
 have HA4:Hid (Below w3.heap.size w3 (w3.alloc (.cells #[.int .i64 10,.int .i64 11] 3))):=(b_ _ _).alloc (n_ _) _;have hsz4:W0.heap.size<=w3.heap.size:=HB3.out.size;have HC4:=h_ (rule_any (w3.alloc (.cells #[.int .i64 10,.int .i64 11] 3)) b w3.heap.size 3 _ (HR3.out.below HA4.out) (by have:=HA4.out.size;omega) (by omega) HN4.out);go_wp2_with fail;refine HC4.out.mono ?_;rintro e w4 ⟨v4,rfl,hr,hb⟩;have HR4:=h_ hr;have HB4:Hid (Below W0.heap.size W0 w4):=(HB3.out.trans (HA4.out.mono hsz4)).trans (hb.mono (Nat.le_trans hsz4 HA4.out.size));clear hr hb HC4 HN4 HA4 HR3 HB3;have HN5:Hid (∀(i:Nat) (o:List UInt8×Int),(rowOps (5-4))[i]?=some o->(w4.alloc (.cells #[.int .i64 12] 3)).cell? ⟨w4.heap.size,i,none⟩=some (.int .i64 o.2)):=nums_new w4 1 _ _ rfl;have HA5:Hid (Below w4.heap.size w4 (w4.alloc (.cells #[.int .i64 12] 3))):=(b_ _ _).alloc (n_ _) _;have hsz5:W0.heap.size<=w4.heap.size:=HB4.out.size;have HC5:=h_ (rule_any (w4.alloc (.cells #[.int .i64 12] 3)) b w4.heap.size 4 _ (HR4.out.below HA5.out) (by have:=HA5.out.size;omega) (by omega) HN5.out);go_wp2_with fail;refine HC5.out.mono ?_;rintro e w5 ⟨v5,rfl,hr,hb⟩;have HR5:=h_ hr;have HB5:Hid (Below W0.heap.size W0 w5):=(HB4.out.trans (HA5.out.mono hsz5)).trans (hb.mono (Nat.le_trans hsz5 HA5.out.size));clear hr hb HC5 HN5 HA5 HR4 HB4;have HN6:Hid (∀(i:Nat) (o:List UInt8×Int),(rowOps (5-5))[i]?=some o->(w5.alloc (.cells #[.int .i64 13] 3)).cell? ⟨w5.heap.size,i,none⟩=some (.int .i64 o.2)):=nums_new w5 0 _ _ rfl;have HA6:Hid (Below w5.heap.size w5 (w5.alloc (.cells #[.int .i64 13] 3))):=(b_ _ _).alloc (n_ _) _;have hsz6:W0.heap.size<=w5.heap.size:=HB5.out.size;have HC6:=h_ (rule_any (w5.alloc (.cells #[.int .i64 13] 3)) b w5.heap.size 5 _ (HR5.out.below HA6.out) (by have:=HA6.out.size;omega) (by omega) HN6.out);go_wp2_with fail;refine HC6.out.mono ?_;rintro e w6 ⟨v6,rfl,hr,hb⟩;have HR6:=h_ hr;have HB6:Hid (Below W0.heap.size W0 w6):=(HB5.out.trans (HA6.out.mono hsz6)).trans (hb.mono (Nat.le_trans hsz6 HA6.out.size));clear hr hb HC6 HN6 HA6 HR5 HB5;obtain ⟨u,l1,l2,l3,lo,rfl,hl⟩:=rule_lin HR6.out;have HX6:=h_ (HX.out.below HB6.out);have HF6:=h_ (HF.out.below HB6.out);have HBW:Hid (Below w.heap.size w w6):=HB0.out.trans (HB6.out.mono hwW0);have HC:=h_ (HLN.out w6 b n c q d A xs r l1 l2 l3 lo u HMM.out (HH.out.below HBW.out) hl);have hs6:W0.heap.size<=w6.heap.size:=HB6.out.size;unfold PRet at HC;clear hl HR6 HX HF HB0 HB6 HLN;go_wp2_with fail;refine HC.out.mono ?_;rintro e w7 ⟨v,rfl,hpp,hm⟩;have hvv:v.val=.agg #[.int .i64 v.kind,.int .i64 v.num,.string v.name,.int .i64 v.op,.slice v.A v.len v.cap,.int .i64 v.p]:=rfl;rw [hvv];unfold ftP ftV
 obtain ⟨E,hE⟩:∃E,E=Pf (5-5) d r:=⟨_,rfl⟩
 rw [<-hE] at hpp ⊢
 obtain ⟨cc,hcc⟩:∃cc,E.code=cc:=⟨_,rfl⟩
 obtain ⟨pp,hpt⟩:∃pp,E.pt=pp:=⟨_,rfl⟩
 rw [hcc,hpt]
 have HR:Hid (ftP E=ftV cc pp):=by show _=_;unfold ftP;rw [hcc,hpt]
 have HX7:=h_ (HX6.out.mv hm hg1b);have HF7:=h_ (HF6.out.mv hm hg2b);have HM7:=h_ ((Mv.of b HBW.out).trans hm);have HPP:=h_ hpp
 have HREQ:Hid (Pf 0 d r=E):=by show _=_;rw [hE]
 clear hm hpp hvv hcc hpt hE HX6 HF6 HBW HC;have a0:=HX7.out.c0;have a1:=HX7.out.c1;have a2:=HX7.out.c2;have a3:=HX7.out.c3;have a4:=HX7.out.c4;have a5:=HX7.out.c5;have f0:=HX7.out.fr 0;have f1:=HX7.out.fr 1;have f2:=HX7.out.fr 2;have f3:=HX7.out.fr 3;have f4:=HX7.out.fr 4;have f5:=HX7.out.fr 5;have k0:=HF7.out.c0;have k1:=HF7.out.c1;have j0:=HF7.out.fr 0;have j1:=HF7.out.fr 1;go_wp2_with fail
 obtain ⟨W9,hW9⟩:∃W,W=res2 w7 g1 g2 v cc pp:=⟨_,rfl⟩
 have HS:XpB W9 g1 v:=by rw [hW9];exact res2_x HX7.out hg12 v cc pp
 have HS':FtB W9 g2 (.int .i64 cc) (.int .i64 pp):=by rw [hW9];exact res2_f HF7.out hg12 v cc pp
 have HP:Mv b w W9:=by rw [hW9];exact res2_mv HM7.out hg1w hg2w v cc pp
 have HQ:PP W9 w.heap.size b n c d A xs v (Pf 0 d r):=by
  rw [hW9];rw [HREQ.out];exact res2_pp HPP.out (by omega) (by omega) (by omega) (Ne.symm hg1b) (Ne.symm hg2b) _ _ _
 unfold res2 two six at hW9;rw [<-hW9];clear hW9;refine bodyPost_ret (XpB.res2 (w:=W9) (v:=v) rfl _ rfl rfl HS HS') rfl ?_;exact ⟨v,by rw [HREQ.out,HR.out];rfl,HQ,HP⟩
theorem pone_all:∀m,POne m
 |0=>λ w b n c q d A xs r hm h=>by
  exfalso;obtain ⟨t,r',rfl⟩:=ends_cons h.en;simp at hm
 |m+1=>pone1_any m (pone_all m) (exp_any (pone_all m))
theorem expression_any (w:World) (b n c q d:Nat) (A:Option Addr) (xs r:List Tk) (h:Pst w b n c q d A xs r) :
  Calls Tryz.prog 242 #[.pointer (some ⟨b,0,none⟩)] w (PRet w b n c d A xs (Pf 0 d r)) :=
 exp_any (pone_all r.length) w b n c q d A xs r (n_ _) h
theorem scF_ends {l:List UInt8} (h0:(scF l).2.1=0):TkEnds (scF l).1:=by
 have hl:¬16384<l.length:=by
  intro h;unfold scF at h0;rw [if_pos h] at h0;exact absurd h0 (by decide)
 have e1:scF l=scA (l.length+1) 0 [] l:=by unfold scF;rw [if_neg hl]
 rw [e1] at h0;obtain ⟨Y,h1,_⟩:=sc_next [41] (l.length+1) 0 [] l (by omega) h0;rw [<-e1] at h1;have h2:(scF l).1=[]++Y++[⟨5,[],0,((0+l.length:Nat):Int)⟩]:=congrArg Prod.fst h1;exact ⟨[]++Y,_,h2,rfl,scF_kinds l h2⟩
theorem ends_at {xs:List Tk} (h:TkEnds xs):(∀i t,xs[i]?=some t->(t.kind=5 ↔ i+1=xs.length))/\0<xs.length:=by
 obtain ⟨Y,e,rfl,he,hY⟩:=h;refine ⟨λ i t ht=>?_,by simp⟩;rw [List.length_append,List.length_singleton];rcases Nat.lt_or_ge i Y.length with hi|hi
 ·rw [List.getElem?_append_left hi] at ht;exact ⟨λ h=>absurd h (hY t (List.mem_of_getElem? ht)),λ h=>by omega⟩
 ·rw [List.getElem?_append_right hi] at ht;have hlt:i-Y.length < [e].length:=(List.getElem?_eq_some_iff.1 ht).1;simp only [List.length_singleton] at hlt
  have hz:i-Y.length=0:=by omega
  rw [hz] at ht
  have:e=t:=by simpa using ht
  subst this;exact ⟨λ _=>by omega,λ _=>he⟩
theorem indexEnd_any (w:World) (A:Option Addr) (n c:Nat) (xs:List Tk) (hA:TkAt w A n xs) (he:TkEnds xs) (hn:n<=1000000000) :
  Calls Tryz.prog 240 #[.slice A n c,.func (.func 241) #[] #[]] w λ e w'=>e=.returned (.int .i64 ((n:Int)-1))/\Below w.heap.size w w':=by
 have HE:=h_ (ends_at he)
 have hn0:0<n:=by rw [<-hA.1];exact (ends_at he).2
 have HLN:=h_ hA.1;have HA:=h_ (λ (W:World) (hb:Below w.heap.size w W)=>hA.below hb)
 obtain ⟨g,o,hg⟩:∃g o,A=some ⟨g,o,none⟩:=by
  obtain ⟨t,ht⟩:=hA.get hn0;obtain ⟨g,o,e,_⟩:=hA.2 0 t ht;exact ⟨g,o,e⟩
 subst hg;clear hA he;go_enter Tryz.func240,Tryz.ntmps240;go_wp2_with fail
 go_loopw [8] (λ iv wr=>∃i:Nat,i<n/\iv=.int .i64 (i:Int)/\Hid (Below w.heap.size w wr)) (λ iv _=>n-(intOf iv).toNat)
 case atStart=>exact ⟨0,hn0,rfl,b_ _ _⟩
 case round =>
  obtain ⟨i,hi,rfl,HB⟩:=hrel
  have hi':(i:Int)<n:=by omega
  obtain ⟨t,ht⟩:=(HA.out wr HB.out).get hi;obtain ⟨g',o',e,x0,x1,x2,x3⟩:=(HA.out wr HB.out).2 i t ht
  obtain ⟨rfl,rfl⟩:g'=g/\o'=o:=by
   injection e with e;injection e with e1 e2;exact ⟨e1.symm,e2.symm⟩
  obtain ⟨X,hX⟩:∃X,txV t.text=.string X:=⟨_,rfl⟩
  have HC:=h_ (isEnd_any wr t);unfold tkV at HC;rw [hX] at HC x1;have HT:=h_ (HE.out.1 i t ht);clear e hX ht
  obtain ⟨d5,hd5⟩:∃d5,(t.kind==5)=d5:=⟨_,rfl⟩
  rw [hd5] at HC;have HD:=h_ hd5;clear hd5;go_wp2_with fail;refine HC.out.mono ?_;rintro e w1 ⟨rfl,hb⟩;have HB1:=h_ (HB.out.trans (hb.mono HB.out.size));clear hb HC;cases d5
  ·have hne:i+1<n:=by
    have h1:¬t.kind=5:=beq_eq_false_iff_ne.1 HD.out;have h2:=HT.out;rw [HLN.out] at h2;have:¬i+1=n:=λ h=>h1 (h2.2 h);omega
   go_wp2_with fail
   go_roundw
   case rel=>exact ⟨i+1,hne,by go_num,HB1⟩
   case measure=>simp [intOf];omega
  ·have heq:(i:Int)=(n:Int)-1:=by
    have h1:t.kind=5:=eq_of_beq HD.out;have h2:=HT.out.1 h1;rw [HLN.out] at h2;omega
   have HQ:=h_ heq;clear heq;go_wp2_with fail;go_ret;exact ⟨by rw [<-HQ.out];rfl,HB1.out⟩
theorem res2_below {B g1 g2:Nat} {u0 w:World} (h:Below B u0 w) (h1:B<=g1) (h2:B<=g2) (u:EV) (c p:Int):Below B u0 (res2 w g1 g2 u c p):=by
 unfold res2 two six;exact (((((((h.setCell (p:=⟨g1,0,none⟩) h1 _).setCell (p:=⟨g1,1,none⟩) h1 _).setCell (p:=⟨g1,2,none⟩) h1 _).setCell (p:=⟨g1,3,none⟩) h1 _).setCell (p:=⟨g1,4,none⟩) h1 _).setCell (p:=⟨g1,5,none⟩) h1 _).setCell (p:=⟨g2,0,none⟩) h2 _).setCell (p:=⟨g2,1,none⟩) h2 _
theorem XpB.res3 {w:World} {g g':Nat} {v:EV} {x y:Value} {fn:Func} {p t p':Tmp} (hr:fn.results=#[.cell p 40,.tmp t,.cell p' 59]) (tmps:Array Value) (hp:tmps.getD p undef=.pointer (some ⟨g,0,none⟩)) (hp':tmps.getD p' undef=.pointer (some ⟨g',0,none⟩))
  (h:XpB w g v) (h':FtB w g' x y):(results fn tmps).run Tryz.prog w=.ok (.tuple #[v.val,tmps.getD t undef,.agg #[x,y]]) w:=by
 have e1:tmps[p]?.getD undef=.pointer (some ⟨g,0,none⟩):=by simpa using hp
 have e2:tmps[p']?.getD undef=.pointer (some ⟨g',0,none⟩):=by simpa using hp'
 simp [results,hr,e1,e2,asAddr,h.load,h'.load]
def PW (w':World) (lo n:Nat) (xs:List Tk) (v:EV) (q:Nat):PR->Prop
 |.out=>False
 |.ok x r=>GW w' lo w'.heap.size x.gx v/\TkEnds r/\q<n/\xs.drop q=r
 |.bad code _=>code≠0/\v=ev0/\q=0
theorem parseq_any (w:World) (n c q0:Nat) (A:Option Addr) (xs r0:List Tk) (hA:TkAt w A n xs) (he:TkEnds xs) (hq0:xs.drop q0=r0) (he0:TkEnds r0) (hq0n:q0<n) (hn:n<=1000000000) (hL:∀t∈xs,Lex t) (hV:Vs w) :
  Calls Tryz.prog 222 #[.slice A n c,.int .i64 (q0:Int)] w λ e w'=>∃(v:EV) (q:Nat),e=.returned (.tuple #[v.val,.int .i64 (q:Int),ftP (Pf 0 0 r0)])/\PW w' w.heap.size n xs v q (Pf 0 0 r0)/\Below w.heap.size w w':=by
 have hn0:0<n:=by rw [<-hA.1];exact (ends_at he).2
 have hn0':decide ((q0:Int) ≥ n)=false:=decide_eq_false (by omega)
 have hn0'':¬(q0:Int) ≥ n:=by omega
 have hn1':decide ((q0:Int)<0)=false:=decide_eq_false (by omega)
 have hn1'':¬(q0:Int)<0:=by omega
 obtain ⟨W0,g1,g2,hW0,hg1,hg2,HX,HF,HB0,hg1w,hg2w,hg12,hg10,hg20⟩:=ret_cells w;have HI:=h_ (indexEnd_any W0 A n c xs (hA.below HB0.out) he hn)
 have HAB:Hid (∀g o,A=some ⟨g,o,none⟩->g<w.heap.size):=λ g o e=>by
  obtain ⟨t,ht⟩:=hA.get hn0;obtain ⟨g',o',e',x0,_⟩:=hA.2 0 t ht;rw [e] at e';injection e' with e';injection e' with e1 _;rw [e1];exact World.block_lt_of_cell? w _ x0
 have HPS:=h_ (λ (W:World) (b:Nat) (hb:Below w.heap.size w W) (hbw:w.heap.size<=b) (hp:PsB W b A n c q0 0)=>expression_any W b n c q0 0 A xs r0 ⟨hp,hA.below hb,λ g o e=>by have:=HAB.out g o e;omega,hq0,he0,hn,by omega,hL,hV.below hb⟩)
 obtain ⟨E,hE⟩:∃E,E=Pf 0 0 r0:=⟨_,rfl⟩
 rw [<-hE] at HPS ⊢;clear hA he hL hV hE HAB hq0 he0;go_enter Tryz.func222,Tryz.ntmps222;go_upto_region 1 with fail;rw [<-hW0,<-hg2,<-hg1];clear hW0 hg1 hg2;go_wp2_with fail;refine HI.out.mono ?_;rintro e w1 ⟨rfl,hb⟩;have HX1:=h_ (HX.out.below hb);have HF1:=h_ (HF.out.below hb);have HB1:=h_ (HB0.out.trans (hb.mono HB0.out.size));have hs1:=hb.size
 obtain ⟨b,hbb⟩:∃b,b=w1.heap.size:=⟨_,rfl⟩
 obtain ⟨W2,hW2⟩:∃W2,W2=w1.alloc (.cells #[.slice A n c,.int .i64 (q0:Int),.int .i64 0] 258):=⟨_,rfl⟩
 have hb2:Below w1.heap.size w1 W2:=by rw [hW2];exact (b_ _ w1).alloc (n_ _) _
 have HX2:=h_ (HX1.out.below hb2);have HF2:=h_ (HF1.out.below hb2);have HB2:=h_ (HB1.out.trans (hb2.mono HB1.out.size))
 have hbw:w.heap.size<=b:=by have:=HB1.out.size;omega
 have hg1b:g1≠b:=by omega
 have hg2b:g2≠b:=by omega
 have HP2:Hid (PsB W2 b A n c q0 0):=by rw [hW2,hbb];exact heap_alloc_new w1 _
 have HC:=h_ (HPS.out W2 b HB2.out hbw HP2.out);have hs2:=hb2.size;have hs12:w.heap.size<=W2.heap.size:=HB2.out.size;unfold PRet at HC;clear hb hb2 HI HX HF HB0 HPS HX1 HF1 HB1;go_upto_region 4 with fail;rw [<-hW2,<-hbb];clear hW2 hbb;go_wp2_with fail;refine HC.out.mono ?_;rintro e w3 ⟨v,rfl,hpp,hm⟩;have hvv:v.val=.agg #[.int .i64 v.kind,.int .i64 v.num,.string v.name,.int .i64 v.op,.slice v.A v.len v.cap,.int .i64 v.p]:=rfl;rw [hvv];unfold ftP ftV
 obtain ⟨g3,hg3⟩:∃g3,g3=w3.heap.size:=⟨_,rfl⟩
 obtain ⟨g4,hg4⟩:∃g4,g4=w3.heap.size+1:=⟨_,rfl⟩
 obtain ⟨W4,hW4⟩:∃W4,W4=(w3.alloc (xob v)).alloc (.cells #[.int .i64 E.code,.int .i64 E.pt] 59):=⟨_,rfl⟩
 have hb4:Below w3.heap.size w3 W4:=by rw [hW4];exact ((b_ _ w3).alloc (n_ _) _).alloc (by simp) _
 have HV4:Hid (XpB W4 g3 v):=by rw [hW4,hg3];exact (XpB.new w3 v).alloc _
 have HC4:Hid (FtB W4 g4 (.int .i64 E.code) (.int .i64 E.pt)):=by
  rw [hW4,hg4]
  have e:(w3.alloc (xob v)).heap.size=w3.heap.size+1:=by simp
  rw [<-e];exact FtB.new _ _ _
 have HX4:=h_ ((HX2.out.mv hm hg1b).below hb4);have HF4:=h_ ((HF2.out.mv hm hg2b).below hb4);have HB4:Hid (Below w.heap.size w W4):=(hm.belowB HB2.out hbw hs12).trans (hb4.mono (by have:=World.grownBy.size hm;omega));have HPP4:=h_ (hpp.below hb4);have hs3:=World.grownBy.size hm
 have hg31:¬g3=g1:=by omega
 have hg32:¬g3=g2:=by omega
 have hg41:¬g4=g1:=by omega
 have hg42:¬g4=g2:=by omega
 have hbg1:¬b=g1:=Ne.symm hg1b;have hbg2:¬b=g2:=Ne.symm hg2b
 have hg12W:g1<W2.heap.size:=by omega
 have hg22W:g2<W2.heap.size:=by omega
 unfold xob at hW4;clear hpp hm hvv hb4 HX2 HF2 HB2 HP2 HC;go_upto_region 5 with fail;rw [<-hW4,<-hg4,<-hg3];clear hW4 hg4 hg3;have y0:=HC4.out.c0;have y1:=HC4.out.c1;have a0:=HX4.out.c0;have a1:=HX4.out.c1;have a2:=HX4.out.c2;have a3:=HX4.out.c3;have a4:=HX4.out.c4;have a5:=HX4.out.c5;have f0:=HX4.out.fr 0;have f1:=HX4.out.fr 1;have f2:=HX4.out.fr 2;have f3:=HX4.out.fr 3;have f4:=HX4.out.fr 4;have f5:=HX4.out.fr 5;have k0:=HF4.out.c0;have k1:=HF4.out.c1;have j0:=HF4.out.fr 0;have j1:=HF4.out.fr 1;have z0:=HV4.out.c0;have z1:=HV4.out.c1;have z2:=HV4.out.c2;have z3:=HV4.out.c3;have z4:=HV4.out.c4;have z5:=HV4.out.c5
 cases E with
 |out=>exact absurd HPP4.out (by intro h;exact h)
 |bad cc pp =>
  obtain ⟨hcc,q3,hq3,hp3⟩:=HPP4.out;have HCC:=h_ hcc;have hwn:(cc==0)=false:=beq_eq_false_iff_ne.2 hcc;simp only [PR.code,PR.pt] at y0 y1;clear hp3 hcc hq3;go_wp2_with fail
  go_region
  go_wp2_with fail
  obtain ⟨W9,hW9⟩:∃W,W=res2 W4 g1 g2 ev0 cc pp:=⟨_,rfl⟩
  have HS:XpB W9 g1 ev0:=by rw [hW9];exact res2_x HX4.out hg12 ev0 cc pp
  have HS':FtB W9 g2 (.int .i64 cc) (.int .i64 pp):=by rw [hW9];exact res2_f HF4.out hg12 ev0 cc pp
  have HP:Below w.heap.size w W9:=by rw [hW9];exact res2_below HB4.out hg1w hg2w ev0 cc pp
  unfold res2 two six at hW9;dsimp only [ev0] at hW9;rw [<-hW9];clear hW9;refine bodyPost_ret (XpB.res3 (w:=W9.drew) (v:=ev0) rfl _ rfl rfl HS HS') rfl ?_;exact ⟨ev0,0,rfl,⟨HCC.out,rfl,rfl⟩,HP.drew⟩
 |ok x r =>
  obtain ⟨hgv,hen,q3,hq3,hdr,hp3⟩:=HPP4.out;simp only [PR.code,PR.pt] at y0 y1;have r1:=hp3.c1;have HGV:=h_ hgv;have HEN:=h_ (And.intro hen (And.intro hq3 hdr));clear hgv hen hdr hp3;go_wp2_with fail
  go_region
  go_wp2_with fail
  obtain ⟨W9,hW9⟩:∃W,W=res2 W4 g1 g2 v 0 0:=⟨_,rfl⟩
  have HS:XpB W9 g1 v:=by rw [hW9];exact res2_x HX4.out hg12 v 0 0
  have HS':FtB W9 g2 (.int .i64 0) (.int .i64 0):=by rw [hW9];exact res2_f HF4.out hg12 v 0 0
  have HP:Below w.heap.size w W9:=by rw [hW9];exact res2_below HB4.out hg1w hg2w v 0 0
  have HQ:GW W9 w.heap.size W9.heap.size x.gx v:=by rw [hW9];exact res2_gv HGV.out hg12W hg22W hs12 v 0 0
  unfold res2 two six at hW9;rw [<-hW9];clear hW9;refine bodyPost_ret (XpB.res3 (w:=W9.drew) (v:=v) rfl _ rfl rfl HS HS') rfl ?_;exact ⟨v,q3,rfl,⟨HQ.below (b_ _ W9).drew (n_ _),HEN.out.1,HEN.out.2.1,HEN.out.2.2⟩,HP.drew⟩
def RD (w':World) (lo:Nat) (v:EV):Option Ex->Prop
 |some x=>GV w' lo w'.heap.size x.gx v
 |none=>v=ev0
theorem RD.drew {w:World} {lo:Nat} {v:EV} {e:Option Ex} (h:RD w lo v e):RD w.drew lo v e:=by
 cases e with
 |none=>exact h
 |some x=>exact GV.below h (b_ _ w).drew (n_ _)
theorem RD.below {w w':World} {lo:Nat} {v:EV} {e:Option Ex} (h:RD w lo v e) (hb:Below w.heap.size w w'):RD w' lo v e:=by
 cases e with
 |none=>exact h
 |some x=>exact (GV.below h hb (n_ _)).mono (n_ _) hb.size
theorem RD.mono {w:World} {lo lo':Nat} {v:EV} {e:Option Ex} (h:RD w lo v e) (hl:lo'<=lo):RD w lo' v e:=by
 cases e with
 |none=>exact h
 |some x=>exact GV.mono hl (n_ _) h
end Go.Proofs.YtpgeidpfhakgaaaGreatDoor
