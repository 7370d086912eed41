import Derived.Test.YtcddbfdbhjkjgaaGreatDoorQh
import Derived.Test.YtcddbfdbhjkjgaaGreatDoorQXS
import Derived.Test.YtcddbfdbhjkjgaaGreatDoorXR
import Derived.Test.YtcddbfdbhjkjgaaGreatDoorXA
set_option maxHeartbeats 12800000
set_option maxRecDepth 20000
namespace Go.Proofs.YtcddbfdbhjkjgaaGreatDoor
open Go.RowKit
structure Vars (w:World):Prop where
 kw:KwAt w
 er:ErrAt w
theorem Vars.below {w w':World} (h:Vars w) (hb:Below w.heap.size w w'):Vars w':=⟨h.kw.below hb,errAt_below h.er hb⟩
def Room (w:World) (g n:Nat):Prop:=∃cur,w.heap[g]?=some (.cells cur 45 (0,0))∧n*4≤cur.size
theorem Room.cell {w:World} {g n:Nat} (h:Room w g n) {j:Nat} (hj:j<n*4):∃u,w.cell? ⟨g,j,none⟩=some u:=by
 obtain ⟨cur,h,hs⟩:=h
 exact ⟨_,(cell_of_row w g j _ _ _ h).trans (Array.getElem?_eq_getElem (by omega))⟩
theorem Room.fr {w:World} {g n:Nat} (h:Room w g n) (j:Nat):w.frozen? ⟨g,j,none⟩=false:=by
 obtain ⟨cur,h,_⟩:=h
 exact frozen_of_row w g j cur _ h
theorem Room.set {w:World} {g n:Nat} (h:Room w g n) (j:Nat) (u:Value):Room (w.setCell ⟨g,j,none⟩ u) g n:=by
 obtain ⟨cur,h,hs⟩:=h
 exact ⟨_,heap_setCell_same w g j cur _ u h,by simpa using hs⟩
theorem Room.below {w w':World} {g n:Nat} (h:Room w g n) (hb:Below w.heap.size w w'):Room w' g n:=by
 obtain ⟨cur,h,hs⟩:=h
 refine ⟨cur,?_,hs⟩
 rw [hb.block g ?_]
 ·exact h
 ·rcases Nat.lt_or_ge g w.heap.size with h'|h'
  ·exact h'
  ·rw [Array.getElem?_eq_none h'] at h;cases h
theorem TkRow.reads {w:World} {B:Nat} {A:Option Addr} {n c:Nat} {xs:List Tk} (h:TkRow w B (.slice A n c) xs):TkSrc w A n xs:=by
 obtain ⟨A',c',e,_,_,_,hs⟩:=h.src
 simp only [Value.slice.injEq] at e
 obtain ⟨rfl,rfl,rfl⟩:=e
 exact hs
theorem TkRow.len {w:World} {B:Nat} {A:Option Addr} {n c:Nat} {xs:List Tk} (h:TkRow w B (.slice A n c) xs):n=xs.length:=by
 obtain ⟨A',c',e,_⟩:=h.src
 simp only [Value.slice.injEq] at e
 exact e.2.1
theorem TkRow.put {w w':World} {B g:Nat} {v:Value} {xs:List Tk} (h:TkRow w B v xs) (hm:Mv g w w') (hne:v.ownBlock≠some g):TkRow w' B v xs:=h.grown hm (.inr hne)
theorem FtB.put {w w':World} {f g:Nat} {x y:Value} (h:FtB w f x y) (hm:Mv g w w') (hne:f≠g):FtB w' f x y:=h.grown hm (by simpa using hne)
theorem tokens_vars (w:World) (s:ByteArray) (h:Vars w) (R:List Tk×Int×Int) (hR:scF s.data.toList=R) :
  Calls Tryz.prog 14 #[.string s] w fun e w'=>∃A c,e=.returned (.tuple #[.slice A R.1.length c,.agg #[.int .i64 R.2.1,.int .i64 R.2.2]])∧(A=none→c=0)∧R.1.length≤c∧c≤maxLen∧TkRow w' w.heap.size (.slice A R.1.length c) R.1∧Below w.heap.size w w':=by
 have:=tokens_any w s h.kw h.er
 rw [hR] at this
 refine this.mono ?_
 rintro e w' ⟨v,rfl,hr,hb⟩
 obtain ⟨A,c,rfl,h1,h2,h3,_⟩:=hr.src
 exact ⟨A,c,rfl,h3,h1,h2,hr,hb⟩
theorem rtokens_vars (w:World) (s:ByteArray) (R:List Tk×Int×Int) (hR:scF s.data.toList=R) :
  Calls Tryz.prog 12 #[.string s] w fun e w'=>∃A c,e=.returned (.tuple #[.slice A R.1.length c,.agg #[.int .i64 R.2.1,.int .i64 R.2.2]])∧(A=none→c=0)∧R.1.length≤c∧c≤maxLen∧TkRow w' w.heap.size (.slice A R.1.length c) R.1∧Below w.heap.size w w':=by
 have:=rtokens_any w s
 rw [hR] at this
 refine this.mono ?_
 rintro e w' ⟨v,rfl,hr,hb⟩
 obtain ⟨A,c,rfl,h1,h2,h3,_⟩:=hr.src
 exact ⟨A,c,rfl,h3,h1,h2,hr,hb⟩
theorem scA_len:∀(f p:Nat) (acc:List Tk) (l:List UInt8),acc.length≤p→(scA f p acc l).1.length≤p+l.length+1
 |0,_,_,_,_=>Nat.zero_le _
 |f+1,p,acc,l,h=>by
  have hb:=blK_le false l
  rw [scA]
  split
  ·simp only [List.length_append,List.length_singleton]
   omega
  ·rename_i h0
   split
   ·rename_i h1
    have hp:=tkS_pos2 h0 h1
    have hs:=tkS_le (l.drop (blK false l))
    rw [List.length_drop] at hs
    refine Nat.le_trans (scA_len f _ _ _ (by rw [List.length_append,List.length_singleton];omega)) ?_
    rw [List.length_drop,List.length_drop]
    omega
   ·exact Nat.zero_le _
theorem scF_len (l:List UInt8):(scF l).1.length≤16385:=by
 unfold scF
 split
 ·exact Nat.zero_le _
 ·refine Nat.le_trans (scA_len _ 0 [] l (n_ _)) ?_
  omega
end Go.Proofs.YtcddbfdbhjkjgaaGreatDoor
