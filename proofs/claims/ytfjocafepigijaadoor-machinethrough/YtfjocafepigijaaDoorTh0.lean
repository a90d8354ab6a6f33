/- Plain facts for ThroughCost's rounds: which arcs of pairs have been looked at. No program text. -/
import Derived.Test.YtfjocafepigijaaDoorTg
namespace Go.Proofs.YtfjocafepigijaaDoor.Tc
open Go.RowKit Mv Wk Bw Th CR

theorem le_mil {i n : Nat} (h : i < n + 1) (h2 : n ≤ 8) : i ≤ 1000000 := by omega
theorem take_flat {α β : Type} (l : List α) (g : α → List β) (n : Nat) (h : n < l.length) (e : β) : e ∈ (l.take (n + 1)).flatMap g ↔ e ∈ (l.take n).flatMap g ∨ e ∈ g l[n] := by
 rw [List.take_succ_eq_append_getElem h, List.flatMap_append, List.mem_append]
 simp
theorem jx_in {b : M} {SB : Nat} {x e : A5} (h : e ∈ jx b SB x) : e.2.2.1 = x.2.2.1 := by
 unfold jx at h
 split at h
 ·obtain ⟨t, _, rfl⟩ := List.mem_map.1 h; rfl
 ·obtain ⟨y, _, h⟩ := List.mem_flatMap.1 h
  unfold jy at h
  split at h
  ·rw [List.mem_singleton] at h; subst h; rfl
  ·cases h
/-- what has been looked at: D0, and at this place the arcs of the first n -/
def DX (D0 : A5 → Nat → Nat → Prop) (l : List A5) (g : A5 → List A5) (i1 j1 : Nat) (e : A5) (i j n : Nat) : Prop := D0 e i j ∨ (i = i1 ∧ j = j1 ∧ e ∈ (l.take n).flatMap g)
theorem DX.up {D0 : A5 → Nat → Nat → Prop} {l : List A5} {g : A5 → List A5} {i1 j1 n : Nat} {e : A5} {i j : Nat} (hn : n < l.length) (h : DX D0 l g i1 j1 e i j (n + 1)) : DX D0 l g i1 j1 e i j n ∨ (i = i1 ∧ j = j1 ∧ e ∈ g l[n]) := by
 rcases h with h | ⟨h1, h2, h3⟩
 ·exact .inl (.inl h)
 ·exact ((take_flat l g n hn e).1 h3).imp (fun h => .inr ⟨h1, h2, h⟩) (fun h => ⟨h1, h2, h⟩)
/-- what has been looked at, a row of arcs more -/
def DM (D0 : A5 → Nat → Nat → Prop) (f : Nat → A5) (i1 j1 : Nat) (e : A5) (i j n : Nat) : Prop := D0 e i j ∨ (i = i1 ∧ j = j1 ∧ e ∈ (List.range n).map f)
theorem DM.up {D0 : A5 → Nat → Nat → Prop} {f : Nat → A5} {i1 j1 n : Nat} {e : A5} {i j : Nat} (h : DM D0 f i1 j1 e i j (n + 1)) : DM D0 f i1 j1 e i j n ∨ (e = f n ∧ i = i1 ∧ j = j1) := by
 rcases h with h | ⟨h1, h2, h3⟩
 ·exact .inl (.inl h)
 ·rw [List.range_succ, List.map_append, List.mem_append] at h3
  rcases h3 with h3 | h3
  ·exact .inl (.inr ⟨h1, h2, h3⟩)
  ·exact .inr ⟨by simpa using h3, h1, h2⟩
theorem DM.zero {D0 : A5 → Nat → Nat → Prop} {f : Nat → A5} {i1 j1 : Nat} {e : A5} {i j : Nat} (h : DM D0 f i1 j1 e i j 0) : D0 e i j := h.elim id fun h => by simp at h
theorem DX.zero {D0 : A5 → Nat → Nat → Prop} {l : List A5} {g : A5 → List A5} {i1 j1 : Nat} {e : A5} {i j : Nat} (h : DX D0 l g i1 j1 e i j 0) : D0 e i j := h.elim id fun h => by simp at h
theorem DX.up_y {D0 : A5 → Nat → Nat → Prop} {b : M} {SB : Nat} {f : A5} {i1 j1 n : Nat} {e : A5} {i j : Nat} (hn : n < b.arcs.length) (h : DX D0 b.arcs (jy SB f) i1 j1 e i j (n + 1)) : DX D0 b.arcs (jy SB f) i1 j1 e i j n ∨ ((b.arcs[n]).2.2.1 = f.2.2.2.1 ∧ e = eX SB f b.arcs[n] ∧ i = i1 ∧ j = j1) := by
 refine (h.up hn).imp id fun ⟨h1, h2, h3⟩ => ?_
 unfold jy at h3
 split at h3
 ·rename_i h4
  exact ⟨h4, by simpa using h3, h1, h2⟩
 ·cases h3
theorem mem_jx {a b : M} {SA SB : Nat} {x e : A5} (hx : x ∈ a.arcs) (h : e ∈ jx b SB x) : e ∈ (prM a b SA SB).arcs := List.mem_append_left _ (List.mem_flatMap.2 ⟨x, hx, h⟩)
theorem mem_jb {a b : M} {SA SB : Nat} {y e : A5} (hy : y ∈ b.arcs) (h : e ∈ jb SA SB y) : e ∈ (prM a b SA SB).arcs := List.mem_append_right _ (List.mem_flatMap.2 ⟨y, hy, h⟩)
theorem take_all {D0 : A5 → Nat → Nat → Prop} {l : List A5} {g : A5 → List A5} {i1 j1 : Nat} {e : A5} {i j : Nat} (h : D0 e i j ∨ (i = i1 ∧ j = j1 ∧ e ∈ l.flatMap g)) : DX D0 l g i1 j1 e i j l.length := by
 unfold DX
 rw [List.take_length]
 exact h
/-- where a row of arcs lies -/
def ArcRow (w : World) (ab : Option Addr) (l : List A5) : Prop := l.length = 0 ∨ ∃ bb off, ab = some ⟨bb, off, none⟩ ∧ bb < w.heap.size ∧ ∀ j u, (acs l)[j]? = some u → w.cell? ⟨bb, off + j, none⟩ = some u
def NumRow (w : World) (ao : Option Addr) (l : List Int) : Prop := l.length = 0 ∨ ∃ bo oo, ao = some ⟨bo, oo, none⟩ ∧ bo < w.heap.size ∧ ∀ j u, (l.map (Value.int .i64))[j]? = some u → w.cell? ⟨bo, oo + j, none⟩ = some u
/-- a round's facts that the walk need not see -/
structure EnvX (SA SB N : Nat) (a b : M) (inn out : List Int) (ai ao : Option Addr) (w : World) (i1 j1 : Nat) : Prop where
 hA : SA ≤ 40
 hB : SB ≤ 40
 hn : inn.length ≤ 8
 hk : out.length ≤ 8
 hlA : a.arcs.length ≤ 120
 hlB : b.arcs.length ≤ 120
 hi : i1 < inn.length + 1
 hj : j1 < out.length + 1
 hN : N = SA * SB * (inn.length + 1) * (out.length + 1)
 arcA : ∀ y (h : y < a.arcs.length), ∃ t t2 yw : Nat, ∃ I O : Int, a.arcs[y] = ((t : Int), (t2 : Int), I, O, (yw : Int)) ∧ t < SA ∧ t2 < SA ∧ yw ≤ 1000000 ∧ 0 ≤ I ∧ 0 ≤ O
 arcB : ∀ y (h : y < b.arcs.length), ∃ t t2 yw : Nat, ∃ I O : Int, b.arcs[y] = ((t : Int), (t2 : Int), I, O, (yw : Int)) ∧ t < SB ∧ t2 < SB ∧ yw ≤ 1000000 ∧ 0 ≤ I ∧ 0 ≤ O
 li : NumRow w ai inn
 lo : NumRow w ao out
end Go.Proofs.YtfjocafepigijaaDoor.Tc
