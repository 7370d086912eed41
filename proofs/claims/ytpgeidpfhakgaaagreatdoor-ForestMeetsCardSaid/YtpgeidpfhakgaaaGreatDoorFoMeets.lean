import Derived.Test.YtpgeidpfhakgaaaGreatDoorQh
import Derived.Test.YtpgeidpfhakgaaaGreatDoorQGcO
import Derived.Test.YtpgeidpfhakgaaaGreatDoorGcP
set_option maxHeartbeats 12800000
set_option maxRecDepth 20000
namespace Go.Proofs.YtpgeidpfhakgaaaGreatDoor
open Go.RowKit
theorem mem4 (a b d x:Int):x∈[d,a,b,a] ↔ x∈[a,b,d]:=by
 simp only [List.mem_cons,List.not_mem_nil,or_false]
 constructor <;> intro h <;> omega
theorem mem3 (a b d x:Int):x∈[b,d,a] ↔ x∈[a,b,d]:=by
 simp only [List.mem_cons,List.not_mem_nil,or_false]
 constructor <;> intro h <;> omega
theorem fmeets_law (c:GC) (xs:List Value) (a b d:Int) (w:World) (hx:DxsAt w (gChart c) xs) (hr:c.rng) (hf:c.fit) (_h1:(Lit.int .i64 a).wf=true) (_h2:(Lit.int .i64 b).wf=true) (_h3:(Lit.int .i64 d).wf=true) (hK:KwAt w) (hEr:ErrAt w) (hSg:SgAt w) (hPw:PowTab w) :
  Calls Tryz.prog 7 #[.agg xs.toArray,.int .i64 a,.int .i64 b,.int .i64 d] w λ e w'=>e=.returned (.bool true)/\Below w.heap.size w w':=by
 have HEE:Hid (Ee w):=⟨⟨hK,hEr⟩,hSg,hPw⟩
 obtain ⟨x0,x1,x2,x3,x4,x5,x6,x7,x8,x9,rfl⟩:=cells10 (chart_cells hx)
 obtain ⟨W0,hW0⟩:∃W,W=w.alloc (.cells #[x0,x1,x2,x3,x4,x5,x6,x7,x8,x9] 29):=⟨_,rfl⟩
 obtain ⟨g0,hg0⟩:∃g,g=w.heap.size:=⟨_,rfl⟩
 have hal:Below w.heap.size w W0:=by rw [hW0];exact (b_ _ w).alloc (n_ _) _
 have HB0:=h_ hal
 have HC0:Hid (CB W0 g0 29 [x0,x1,x2,x3,x4,x5,x6,x7,x8,x9]):=by rw [hW0,hg0];exact CB.new w _ [x0,x1,x2,x3,x4,x5,x6,x7,x8,x9]
 have ro:∀u∈[x0,x1,x2,x3,x4,x5,x6,x7,x8,x9],u.oneCell'=true:=hx.ones;have HS:=h_ (small9_any W0 (HEE.out.below hal));have HPR:=h_ (λ (W:World) (hb:Below w.heap.size w W)=>flat_any W c _ (HEE.out.below hb) (hx.below hb) hr (fit_lenN _ hf.2));clear hK hEr hSg hPw hx hr hf hal;have o0:=ro x0 (by simp);have o1:=ro x1 (by simp);have o2:=ro x2 (by simp);have o3:=ro x3 (by simp);have o4:=ro x4 (by simp);have o5:=ro x5 (by simp);have o6:=ro x6 (by simp);have o7:=ro x7 (by simp);have o8:=ro x8 (by simp);have o9:=ro x9 (by simp);clear ro;go_enter Tryz.func7,Tryz.ntmps7;go_upto_region 1 with fail;rw [<-hW0,<-hg0];clear hW0 hg0 o0 o1 o2 o3 o4 o5 o6 o7 o8 o9;go_wp2_with fail;refine HS.out.mono ?_;rintro e w1 ⟨rfl,hb1⟩;have HB1:=h_ (HB0.out.trans (hb1.mono HB0.out.size));have HC1:=h_ (HC0.out.below hb1);clear hb1 HS HC0 HB0;have u0:=HC1.out.c 0 rfl;have u1:=HC1.out.c 1 rfl;have u2:=HC1.out.c 2 rfl;have u3:=HC1.out.c 3 rfl;have u4:=HC1.out.c 4 rfl;have u5:=HC1.out.c 5 rfl;have u6:=HC1.out.c 6 rfl;have u7:=HC1.out.c 7 rfl;have u8:=HC1.out.c 8 rfl;have u9:=HC1.out.c 9 rfl;go_wp2_with fail;refine (HPR.out w1 HB1.out).mono ?_;rintro e w3 ⟨v3,rfl,hf3⟩;have HB3:=h_ (HB1.out.trans (hf3.bl.mono HB1.out.size));clear u0 u1 u2 u3 u4 u5 u6 u7 u8 u9 HC1 HPR HEE
 obtain ⟨P,hP⟩:∃P,(prR c).2=P:=⟨_,rfl⟩
 have hno:=hf3.no;have hyes:=hf3.yes;rw [hP] at hno hyes ⊢;clear hf3 hP
 by_cases hz:P=0
 rotate_left
 ·have h2:(P != 0)=true:=by simpa [bne] using hz
  clear hno hyes hz;go_wp2_with fail;go_ret;exact ⟨rfl,HB3.out⟩
 subst hz;obtain ⟨hsp,hn64⟩:=hyes rfl;have hFo:=lay_fo c.root;have hN:=layN_len c.root (-1) 0 0
 obtain ⟨F,hF⟩:∃F,layN c.root (-1) 0 0=F:=⟨_,rfl⟩
 rw [hF] at hsp hFo hN;clear hF hno hyes;obtain ⟨g,cc,cur,rfl,h1,h2,h3,h4,h5,hrow⟩:=hsp.row (by intro e;have:=hFo.pos;rw [e] at this;cases this)
 have hF64:F.length<=64:=by omega
 clear hsp h1 h2 h3 h4 h5 hN hn64 cur
 obtain ⟨N,hN⟩:∃N,F.length=N:=⟨_,rfl⟩
 have HM:Hid (∀(W:World) (ns:List Int),ns.length<=100->Below w3.heap.size w3 W->Calls Tryz.prog 25 #[.slice (some ⟨g,0,none⟩) N cc,.slice (some ⟨W.heap.size,0,none⟩) ns.length ns.length] (W.alloc (.cells (ns.map (Value.int .i64)).toArray 3)) λ e w'=>e=.returned (.int .i64 (meetF F ns))/\Below W.heap.size W w'):=λ W ns hl hb=>by
  have:=fmeet_new W g cc F ns (hrow.below hb) hl;rw [hN] at this;exact this
 have HM0:Hid (∀W:World,Below w3.heap.size w3 W->Calls Tryz.prog 25 #[.slice (some ⟨g,0,none⟩) N cc,.slice none 0 0] W λ e w'=>e=.returned (.int .i64 (-1))/\w'=W):=λ W hb=>by
  have:=fmeet_any W g cc F none 0 0 [] (hrow.below hb) rfl ⟨n_ _,by decide⟩ (λ i n hi=>by simp at hi);rw [hN] at this;exact this
 have HWT:Hid (∀(W:World) (x y:Int),Below w3.heap.size w3 W->Calls Tryz.prog 22 #[.slice (some ⟨g,0,none⟩) N cc,.int .i64 x,.int .i64 y] W λ e w'=>e=.returned (.bool (inW F x y))/\w'=W):=λ W x y hb=>by
  have:=fwithin_any W g cc F x y (hrow.below hb);rw [hN] at this;exact this
 obtain ⟨X,hX⟩:∃X,meetF F [a,b,d]=X:=⟨_,rfl⟩
 obtain ⟨AB,hAB⟩:∃X,meetF F [a,b]=X:=⟨_,rfl⟩
 have HX2:Hid (meetF F [d,a,b,a]=X):=by
  show _=_;rw [<-hX];exact hFo.meet_sub (by simp) (by simp) (mem4 a b d)
 have HX3:Hid (meetF F [b,d,a]=X):=by
  show _=_;rw [<-hX];exact hFo.meet_sub (by simp) (by simp) (mem3 a b d)
 have HX4:Hid (¬AB<0->meetF F [AB,d]=X):=λ h=>by
  have:=hFo.step (a:=a) (b:=b) d (by rw [hAB];exact h);rw [hAB,hX] at this;exact this.symm
 have HON:Hid (¬AB<0->AB≠a->inW F a AB=true):=λ h h'=>by
  have:=hFo.first (a:=a) (b:=b) (by rw [hAB];exact h);rw [hAB] at this;unfold onW at this;rw [Bool.or_eq_true,decide_eq_true_eq] at this;rcases this with e|e
  ·exact absurd e.symm h'
  ·exact e
 have M1:Hid (Calls Tryz.prog 25 #[.slice (some ⟨g,0,none⟩) N cc,.slice (some ⟨w3.heap.size,0,none⟩) 3 3] (w3.alloc (.cells #[.int .i64 a,.int .i64 b,.int .i64 d] 3)) λ e w'=>e=.returned (.int .i64 X)/\Below w3.heap.size w3 w'):=by
  have:=HM.out w3 [a,b,d] (by simp) (b_ _ _);rw [hX] at this;exact this
 have M2:Hid (∀W:World,Below w3.heap.size w3 W->Calls Tryz.prog 25 #[.slice (some ⟨g,0,none⟩) N cc,.slice (some ⟨W.heap.size,0,none⟩) 4 4] (W.alloc (.cells #[.int .i64 d,.int .i64 a,.int .i64 b,.int .i64 a] 3)) λ e w'=>e=.returned (.int .i64 X)/\Below W.heap.size W w'):=λ W hb=>by
  have:=HM.out W [d,a,b,a] (by simp) hb;rw [HX2.out] at this;exact this
 have M3:Hid (∀W:World,Below w3.heap.size w3 W->Calls Tryz.prog 25 #[.slice (some ⟨g,0,none⟩) N cc,.slice (some ⟨W.heap.size,0,none⟩) 3 3] (W.alloc (.cells #[.int .i64 b,.int .i64 d,.int .i64 a] 3)) λ e w'=>e=.returned (.int .i64 X)/\Below W.heap.size W w'):=λ W hb=>by
  have:=HM.out W [b,d,a] (by simp) hb;rw [HX3.out] at this;exact this
 have M4:Hid (∀W:World,Below w3.heap.size w3 W->Calls Tryz.prog 25 #[.slice (some ⟨g,0,none⟩) N cc,.slice (some ⟨W.heap.size,0,none⟩) 2 2] (W.alloc (.cells #[.int .i64 a,.int .i64 b] 3)) λ e w'=>e=.returned (.int .i64 AB)/\Below W.heap.size W w'):=λ W hb=>by
  have:=HM.out W [a,b] (by simp) hb;rw [hAB] at this;exact this
 have M5:Hid (¬AB<0->∀W:World,Below w3.heap.size w3 W->Calls Tryz.prog 25 #[.slice (some ⟨g,0,none⟩) N cc,.slice (some ⟨W.heap.size,0,none⟩) 2 2] (W.alloc (.cells #[.int .i64 AB,.int .i64 d] 3)) λ e w'=>e=.returned (.int .i64 X)/\Below W.heap.size W w'):=λ h W hb=>by
  have:=HM.out W [AB,d] (by simp) hb;rw [HX4.out h] at this;exact this
 rw [hN];clear hX hAB HX2 HX3 HX4 hrow hFo hF64 hN HM;go_wp2_with fail;refine M1.out.mono ?_;rintro e w4 ⟨rfl,hb4⟩;have HB4:Hid (Below w3.heap.size w3 w4):=hb4;have M2':=h_ (M2.out w4 hb4);clear M1 M2 hb4;go_wp2_with fail;refine M2'.out.mono ?_;rintro e w5 ⟨rfl,hb⟩;have HB5:=h_ (HB4.out.trans (hb.mono HB4.out.size));have M3':=h_ (M3.out w5 HB5.out);clear M2' M3 HB4 hb;go_wp2_with fail;refine M3'.out.mono ?_;rintro e w6 ⟨rfl,hb⟩;have HB6:=h_ (HB5.out.trans (hb.mono HB5.out.size));have M4':=h_ (M4.out w6 HB6.out);clear M3' M4 HB5 hb;go_wp2_with fail;refine M4'.out.mono ?_;rintro e w7 ⟨rfl,hb⟩;have HB7:=h_ (HB6.out.trans (hb.mono HB6.out.size));clear M4' HB6 hb
 by_cases hab:AB<0
 ·have HM07:=h_ (HM0.out w7 HB7.out);have HBF:=h_ (HB3.out.trans (HB7.out.mono HB3.out.size));clear M5 HON HM0 HWT HB7 HB3;go_wp2_with fail;refine HM07.out.mono ?_;rintro e w8 ⟨rfl,rfl⟩;go_wp2_with fail;go_ret;exact ⟨rfl,HBF.out⟩
 ·have M5':=h_ (M5.out (by omega) w7 HB7.out);have HON':=h_ (HON.out (by omega))
  have hab':decide (AB<0)=false:=by simpa using hab
  clear M5 HON;go_wp2_with fail;refine M5'.out.mono ?_;rintro e w8 ⟨rfl,hb⟩;have HB8:=h_ (HB7.out.trans (hb.mono HB7.out.size));have HM08:=h_ (HM0.out w8 HB8.out);have HBF:=h_ (HB3.out.trans (HB8.out.mono HB3.out.size));clear M5' HB7 hb HM0 HB3
  by_cases haa:AB=a
  ·have haa':(AB==a)=true:=by simpa using haa
   clear HWT HON' haa HB8 hab;go_wp2_with fail;refine HM08.out.mono ?_;rintro e w9 ⟨rfl,rfl⟩;go_wp2_with fail;go_ret;exact ⟨rfl,HBF.out⟩
  ·have haa':(AB==a)=false:=by simpa using haa
   have HWA:Hid (Calls Tryz.prog 22 #[.slice (some ⟨g,0,none⟩) N cc,.int .i64 a,.int .i64 AB] w8 λ e w'=>e=.returned (.bool true)/\w'=w8):=by
    have:=HWT.out w8 a AB HB8.out;rw [HON'.out haa] at this;exact this
   clear HWT HON' haa HB8 hab;go_wp2_with fail;refine HM08.out.mono ?_;rintro e w9 ⟨rfl,rfl⟩;go_wp2_with fail;refine HWA.out.mono ?_;rintro e w10 ⟨rfl,rfl⟩;go_wp2_with fail;go_ret;exact ⟨rfl,HBF.out⟩
end Go.Proofs.YtpgeidpfhakgaaaGreatDoor
