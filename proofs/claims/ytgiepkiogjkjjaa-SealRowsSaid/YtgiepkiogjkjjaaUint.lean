import Derived.Test.YtgiepkiogjkjjaaVarint
import Derived.Laws.BytesArg
namespace Go.Proofs.Ytgiepkiogjkjjaa
open Go.RowKit

theorem ownsRow_mono {w : World} {B B' : Nat} {e : TypeId} {size : Nat} {v : Value} {n : Nat} {xs : List Value} (h : w.ownsRow B e size v n xs) (hB : B' ≤ B) : w.ownsRow B' e size v n xs := by
  obtain ⟨h1, h2⟩ := h
  refine ⟨h1, ?_⟩
  rcases h2 with h2 | ⟨g, cap, cur, hv, hg, r⟩
  · exact .inl h2
  · exact .inr ⟨g, cap, cur, hv, by omega, r⟩

/-- A row that is not empty: its shape. -/
theorem ownsRow_some {w : World} {B : Nat} {e : TypeId} {v : Value} {n : Nat} {xs : List Value} (h : w.ownsRow B e 1 v n xs) (hn : 0 < n) :
    ∃ g cap, v = .slice (some ⟨g, 0, none⟩) n cap ∧ B ≤ g ∧ n ≤ cap ∧ cap ≤ maxLen := by
  obtain ⟨_, h2⟩ := h
  rcases h2 with ⟨_, h2⟩ | ⟨g, cap, cur, hv, hg, _, h3, h4, _⟩
  · omega
  · exact ⟨g, cap, hv, hg, h3, h4⟩

/-- A row stays owned where its block stays. -/
theorem ownsRow_below {w w' : World} {B B' : Nat} {e : TypeId} {size : Nat} {v : Value} {n : Nat} {xs : List Value} (h : w.ownsRow B e size v n xs) (hb : Below B' w w') (hlt : ∀ k, v.ownBlock = some k → k < B') : w'.ownsRow B e size v n xs := by
  obtain ⟨h1, h2⟩ := h
  refine ⟨h1, ?_⟩
  rcases h2 with h2 | ⟨g, cap, cur, hv, hg, hh, r⟩
  · exact .inl h2
  · exact .inr ⟨g, cap, cur, hv, hg, by rw [hb.block g (hlt g (by rw [hv]; rfl))]; exact hh, r⟩

/-- The text of an owned row of bytes. -/
theorem ownsRow_string {w : World} {B : Nat} {v : Value} {n : Nat} {xs : List Int} (h : w.ownsRow B 5 1 v n (xs.map (Value.int .u8))) :
    (convert 22 9 v).run Try.prog w = .ok (.string (strOfNums xs)) w := by
  obtain ⟨h1, h2⟩ := h
  rcases h2 with ⟨rfl, h2⟩ | ⟨g, cap, cur, rfl, hg, hb, h3, h4, h5, h6⟩
  · subst h2
    have : xs = [] := List.eq_nil_of_length_eq_zero (by simpa using h1)
    subst this
    exact run_convert_bytes_nil w 22 5 Try.underlying22 Try.underlying5 0 0 9 Try.underlying9
  · refine run_convert_bytes_arg w 22 5 Try.underlying22 Try.underlying5 g 0 n cap xs (by simpa using h1) (fun i hi => ?_) 9 Try.underlying9
    rw [Nat.zero_add, cell_of_row w g i cur 5 (0, 0) hb]
    have hx : i < xs.length := by have := h1; simp at this; omega
    have h7 : (cur.toList.take (n * 1))[i]? = (xs.map (Value.int .u8))[i]? := by rw [h6]
    rw [List.getElem?_take, if_pos (by omega)] at h7
    simp only [List.getElem?_map, List.getElem?_eq_getElem hx, Option.map_some, Array.getElem?_toList] at h7
    rw [h7]
    simp [List.getD, List.getElem?_eq_getElem hx]

theorem wrap_u64_small (n : Int) (h0 : 0 ≤ n) (h : n < 18446744073709551616) : IntKind.u64.wrap n = n := by
  have e : IntKind.u64.wrap n = n % 18446744073709551616 := by rfl
  rw [e]; omega

set_option maxRecDepth 20000 in
theorem uint_neg (n : Int) (w : World) (h : n < 0) :
    Calls Try.prog 22 #[.int .i64 n] w fun e w' => e = .returned (.tuple #[.slice none 0 0, .int .i64 1]) ∧ w = w' := by
  go_enter Try.func22, Try.ntmps22
  go_wp2
  go_ret2
  exact ⟨rfl, rfl⟩

set_option maxRecDepth 20000 in
theorem uint_pos (n : Nat) (w : World) (h : n < 2 ^ 63) :
    Calls Try.prog 22 #[.int .i64 (n : Int)] w fun e w' => ∃ g cap, e = .returned (.tuple #[.slice (some ⟨g, 0, none⟩) (enc n).length cap, .int .i64 0]) ∧
      w'.ownsRow w.heap.size 5 1 (.slice (some ⟨g, 0, none⟩) (enc n).length cap) (enc n).length ((enc n).map (Value.int .u8)) ∧ Below w.heap.size w w' := by
  have HH := Lib.hid h
  have hn : IntKind.u64.wrap (n : Int) = n := wrap_u64_small _ (by omega) (by omega)
  clear h
  go_enter Try.func22, Try.ntmps22
  go_wp2_with (go_at_call 29; refine (appendVarint_any w.heap.size _ 0 [] n w (by have := HH.out; omega) (World.ownsRow_nil _ _ _ _) (Nat.le_refl _) (by omega)).mono ?_; rintro e w1 ⟨v', rfl, hown, hb⟩)
  go_ret2
  have hown' : w1.ownsRow w.heap.size 5 1 v' (enc n).length ((enc n).map (Value.int .u8)) := by simpa using hown
  obtain ⟨g, cap, hv, _⟩ := ownsRow_some hown' (enc_length_pos n)
  rw [hv] at hown'
  exact ⟨g, cap, by rw [hv]; rfl, hown', hb⟩

end Go.Proofs.Ytgiepkiogjkjjaa
