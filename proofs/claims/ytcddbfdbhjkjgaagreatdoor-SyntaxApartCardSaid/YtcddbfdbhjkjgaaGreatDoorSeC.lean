/-
  Charts that are the same, in their places too if asked for: their parts are.
-/
import Derived.Test.YtcddbfdbhjkjgaaGreatDoorSeB
import Derived.Test.YtcddbfdbhjkjgaaGreatDoorYA
namespace Go.Proofs.YtcddbfdbhjkjgaaGreatDoor
open Go.RowKit

theorem aG_same (pl : Bool) (a : SyAct) : aG pl a a := ⟨rfl, rfl, by cases pl; exact (sm_false _ _).2 rfl; exact (sm_true _ _).2 rfl, fun _ => rfl⟩
theorem asG_same (pl : Bool) (l : List SyAct) : asG pl l l := ⟨rfl, fun i a b ha hb => by rw [ha] at hb; obtain rfl := Option.some.inj hb; exact aG_same pl a⟩
theorem mG_same (pl : Bool) (a : SyMove) : mG pl a a := ⟨rfl, rfl, rfl, rfl, by cases pl; exact (sm_false _ _).2 rfl; exact (sm_true _ _).2 rfl, asG_same pl _, rfl, fun _ => rfl⟩
/-- Rows whose elements are the same but for places. -/
theorem map_at {α : Type} {f : α → α} {l l' : List α} (h : l.map f = l'.map f) : l.length = l'.length ∧ ∀ (i : Nat) (a b : α), l[i]? = some a → l'[i]? = some b → f a = f b := by
  refine ⟨by simpa using congrArg List.length h, fun i a b ha hb => ?_⟩
  have := congrArg (fun x => x[i]?) h
  simp only [List.getElem?_map, ha, hb, Option.map_some, Option.some.injEq] at this
  exact this
theorem val_er {v v' : Option Ex} (h : v.map Ex.er = v'.map Ex.er) : sm false (gxO v) (gxO v') = true := by
  rw [sm_false]
  cases v with
  | none =>
    cases v' with
    | none => rfl
    | some y => cases h
  | some x =>
    cases v' with
    | none => cases h
    | some y =>
      have h' : x.er = y.er := Option.some.inj h
      show x.gx.er = y.gx.er
      rw [gx_er, gx_er, h']
theorem aG_er {a b : SyAct} (h : a.er = b.er) : aG false a b := by
  obtain ⟨k, n, v, p⟩ := a
  obtain ⟨k', n', v', p'⟩ := b
  injection h with h1 h2 h3 _
  exact ⟨h1, h2, val_er h3, fun h => by cases h⟩
theorem asG_er {l l' : List SyAct} (h : l.map SyAct.er = l'.map SyAct.er) : asG false l l' := ⟨(map_at h).1, fun i a b ha hb => aG_er ((map_at h).2 i a b ha hb)⟩
theorem mG_er {a b : SyMove} (h : a.er = b.er) : mG false a b := by
  obtain ⟨k, e, w, g, v, l, t, p⟩ := a
  obtain ⟨k', e', w', g', v', l', t', p'⟩ := b
  injection h with h1 h2 h3 h4 h5 h6 h7 _
  exact ⟨h1, h2, h3, h4, val_er h5, asG_er h6, h7, fun h => by cases h⟩
def msG (pl : Bool) (l l' : List SyMove) : Prop := l.length = l'.length ∧ ∀ (i : Nat) (a b : SyMove), l[i]? = some a → l'[i]? = some b → mG pl a b
theorem msG_same (pl : Bool) (l : List SyMove) : msG pl l l := ⟨rfl, fun i a b ha hb => by rw [ha] at hb; obtain rfl := Option.some.inj hb; exact mG_same pl a⟩
theorem msG_er {l l' : List SyMove} (h : l.map SyMove.er = l'.map SyMove.er) : msG false l l' := ⟨(map_at h).1, fun i a b ha hb => mG_er ((map_at h).2 i a b ha hb)⟩

mutual
/-- Nodes that agree; in their places too, if asked for. -/
def nG (pl : Bool) : SyNode → SyNode → Prop
  | .mk k n i d e l m ks p, .mk k' n' i' d' e' l' m' ks' p' => k = k' ∧ n = n' ∧ i = i' ∧ d = d' ∧ asG pl e e' ∧ asG pl l l' ∧ msG pl m m' ∧ nsG pl ks ks' ∧ (pl = true → p = p')
def nsG (pl : Bool) : List SyNode → List SyNode → Prop
  | [], [] => True
  | x :: l, y :: l' => nG pl x y ∧ nsG pl l l'
  | _, _ => False
end
mutual
theorem nG_same (pl : Bool) : ∀ x : SyNode, nG pl x x
  | .mk k n i d e l m ks p => by
    unfold nG
    exact ⟨rfl, rfl, rfl, rfl, asG_same pl _, asG_same pl _, msG_same pl _, nsG_same pl ks, fun _ => rfl⟩
theorem nsG_same (pl : Bool) : ∀ l : List SyNode, nsG pl l l
  | [] => by unfold nsG; trivial
  | x :: l => by unfold nsG; exact ⟨nG_same pl x, nsG_same pl l⟩
end
mutual
theorem nG_er : ∀ {x y : SyNode}, x.er = y.er → nG false x y
  | .mk k n i d e l m ks p, .mk k' n' i' d' e' l' m' ks' p', h => by
    unfold SyNode.er at h
    injection h with h1 h2 h3 h4 h5 h6 h7 h8 _
    unfold nG
    exact ⟨h1, h2, h3, h4, asG_er h5, asG_er h6, msG_er h7, nsG_er h8, fun h => by cases h⟩
theorem nsG_er : ∀ {l l' : List SyNode}, SyNode.ers l = SyNode.ers l' → nsG false l l'
  | [], [], _ => by unfold nsG; trivial
  | [], y :: l', h => by rw [SyNode.ers, SyNode.ers] at h; cases h
  | x :: l, [], h => by rw [SyNode.ers, SyNode.ers] at h; cases h
  | x :: l, y :: l', h => by
    rw [SyNode.ers, SyNode.ers] at h
    injection h with h1 h2
    unfold nsG
    exact ⟨nG_er h1, nsG_er h2⟩
end
theorem nsG_len {pl : Bool} : ∀ {l l' : List SyNode}, nsG pl l l' → l.length = l'.length
  | [], [], _ => rfl
  | [], _ :: _, h => by unfold nsG at h; exact h.elim
  | _ :: _, [], h => by unfold nsG at h; exact h.elim
  | _ :: l, _ :: l', h => by unfold nsG at h; simp [nsG_len h.2]
theorem nsG_get {pl : Bool} : ∀ {l l' : List SyNode}, nsG pl l l' → ∀ (i : Nat) (a b : SyNode), l[i]? = some a → l'[i]? = some b → nG pl a b
  | [], [], _, _, _, _, ha, _ => by simp at ha
  | [], _ :: _, h, _, _, _, _, _ => by unfold nsG at h; exact h.elim
  | _ :: _, [], h, _, _, _, _, _ => by unfold nsG at h; exact h.elim
  | x :: l, y :: l', h, 0, a, b, ha, hb => by
    unfold nsG at h
    obtain rfl : x = a := by simpa using ha
    obtain rfl : y = b := by simpa using hb
    exact h.1
  | x :: l, y :: l', h, i + 1, a, b, ha, hb => by
    unfold nsG at h
    exact nsG_get h.2 i a b (by simpa using ha) (by simpa using hb)
theorem dvNodes_flat (o : Bool) : ∀ l : List SyNode, dvNodes o l = l.flatMap (dvNode o)
  | [] => by rw [dvNodes]; rfl
  | x :: l => by rw [dvNodes, dvNodes_flat o l]; rfl

end Go.Proofs.YtcddbfdbhjkjgaaGreatDoor
