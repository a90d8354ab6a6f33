/- against: the world of all that may be against a claim. Conditions: the claims are of literals; at most 20 premises. -/
import Derived.Test.YtcnanbimpajonaaMz
import Derived.Test.YtcnanbimpajonaaKp
namespace Go.Proofs.Ytcnanbimpajonaa.Ax
open Go.RowKit Cl Cf Cs Ce Hd He Pq My Mz

theorem box_set {W : World} {B : Nat} {v : Value} {t : TypeId} (v' : Value) (h : W.heap[B]? = some (.cells #[v] t (0, 0))) : (W.setCell ⟨B, 0, none⟩ v').heap[B]? = some (.cells #[v'] t (0, 0)) := by
  obtain ⟨hlt, hk⟩ := Array.getElem?_eq_some_iff.1 h
  show (W.heap.modify B _)[B]? = _
  rw [Array.getElem?_eq_getElem (by rw [Array.size_modify]; exact hlt), Array.getElem_modify_self, hk]
  rfl
theorem people_at (k : Nat) (h : k < 64) : people[k]? = some (k : Int) := by
  unfold people
  rw [List.getElem?_map, List.getElem?_range h]
  rfl
theorem people_len : people.length = 64 := by unfold people; simp
def upto (ps : List C) (c : C) (k : Nat) : List Int := (people.take k).filter (mayB ps c)
theorem upto_next (ps : List C) (c : C) (k : Nat) (h : k < 64) : upto ps c (k + 1) = upto ps c k ++ (if mayB ps c (k : Int) then [(k : Int)] else []) := by
  unfold upto
  have hl : k < people.length := by rw [people_len]; exact h
  have e : people[k] = (k : Int) := by
    have := people_at k h
    rw [List.getElem?_eq_getElem hl] at this
    exact Option.some.inj this
  rw [List.take_succ_eq_append_getElem hl, List.filter_append, e]
  cases hm : mayB ps c (k : Int) <;> simp [hm]
theorem upto_end (ps : List C) (c : C) : upto ps c 64 = worldL ps c := by
  unfold upto worldL
  rw [List.take_of_length_le (by rw [people_len]; exact Nat.le_refl _)]
theorem upto_le (ps : List C) (c : C) (k : Nat) : (upto ps c k).length ≤ 64 := by
  unfold upto
  refine Nat.le_trans (List.length_filter_le _ _) ?_
  rw [List.length_take, people_len]
  omega
theorem world_low (ps : List C) (c : C) : Low (worldL ps c) := fun _ hx => (mem_world.1 hx).1

def failP (xs : List Int) (p : C) : Bool := !holdsP xs p
set_option maxHeartbeats 2000000 in
theorem fails_any (xs : List Int) (hx : Low xs) (hl : xs.length ≤ 64) (p : C) (hp : okC p = true) (B : Nat) (a : Option Addr) (n k : Nat) (w : World) (hb : w.heap[B]? = some (.cells #[.slice a n k] 29 (0, 0))) (hI : IsI w (.slice a n k) xs) :
    Calls Try.prog 36 #[vc p, .pointer (some ⟨B, 0, none⟩)] w fun e w' => e = .returned (.bool (failP xs p)) ∧ Below w.heap.size w w' := by
  have hb0 : ∀ o, Below w.heap.size w (w.alloc o) := fun o => (Below.refl _ w).alloc (Nat.le_refl _) o
  have k27 := fun W (hW : Below w.heap.size w W) => holds_any xs p (.slice a n k) W (He.IsI.below hI hW) hl hx hp
  have q : ∀ o, (w.alloc o).cell? ⟨B, 0, none⟩ = some (.slice a n k) := fun o => (World.cell?_alloc_past _ _ _ (Array.getElem?_eq_some_iff.1 hb).1).trans (cell_of_row _ _ 0 _ 29 (0, 0) hb)
  have q' : w.cell? ⟨B, 0, none⟩ = some (.slice a n k) := cell_of_row _ _ 0 _ 29 (0, 0) hb
  obtain ⟨p0, p1, p2⟩ := p
  unfold vc at k27 ⊢
  unfold failP
  dsimp only at k27 ⊢
  clear hI hx hb hp hl
  cases hh : holdsP xs (p0, p1, p2) <;> rw [hh] at k27 <;> clear hh
  all_goals
    go_enter Try.func36, Try.ntmps36
    go_wp2_with (go_at_call 27; first | (refine (k27 _ (hb0 _)).mono ?_; rintro e w2 ⟨rfl, hb2⟩; have H2 : Hid (Below w.heap.size w w2) := (hb0 _).trans (hb2.mono (hb0 _).size)) | (refine (k27 _ (Below.refl _ _)).mono ?_; rintro e w2 ⟨rfl, hb2⟩; have H2 : Hid (Below w.heap.size w w2) := hb2))
    go_ret
    exact ⟨rfl, H2.out⟩
theorem own_isI {w : World} {base n : Nat} {v : Value} {xs : List Int} (h : w.ownsRow base 3 1 v n (nv xs)) (hn : n ≤ 140737488355328) : IsI w v xs ∧ n = xs.length := by
  obtain ⟨hl, h⟩ := h
  have e : xs.length = n := by
    rw [Nat.mul_one] at hl
    rw [← hl]
    simp [nv]
  subst e
  refine ⟨⟨by simp [nv], ?_⟩, rfl⟩
  rcases h with ⟨hv, h0⟩ | ⟨g, cap, cur, hv, _, hg, _, _, _, ht⟩
  · exact ⟨none, 0, by rw [hv, h0], hn, .inl h0⟩
  · refine ⟨_, cap, hv, hn, .inr ⟨g, 0, rfl, (Array.getElem?_eq_some_iff.1 hg).1, fun j u hu => ?_⟩⟩
    have hj : j < xs.length * 1 := by
      have := (List.getElem?_eq_some_iff.1 hu).1
      simp only [nv, List.length_map] at this
      omega
    rw [Nat.zero_add, cell_of_row _ _ j _ 3 (0, 0) hg]
    rw [← ht, List.getElem?_take_of_lt hj, Array.getElem?_toList] at hu
    exact hu
theorem nv_one (x : Int) : ∀ u ∈ nv [x], u.oneCell' = true := by
  intro u hu
  simp [nv] at hu
  subst hu
  rfl
theorem nv_at (w : World) (x : Int) : ∀ j u, (nv [x])[j]? = some u → (w.alloc (.cells #[.int .i64 x] 3)).cell? ((⟨w.heap.size, 0, none⟩ : Addr).add j) = some u := by
  intro j u hj
  match j, hj with
  | 0, hj => simp [nv] at hj; subst hj; simp [Addr.add]

/-- what the loop keeps -/
structure Kept (w : World) (c : C) (xs : List Int) (a : Option Addr) (n k : Nat) (wr : World) : Prop where
  cbox : wr.heap[w.heap.size]? = some (.cells #[.bool c.1, .int .i64 c.2.1, .int .i64 c.2.2] 24 (0, 0))
  box : wr.heap[w.heap.size + 1]? = some (.cells #[.slice a n k] 29 (0, 0))
  row : wr.ownsRow (w.heap.size + 2) 3 1 (.slice a n k) xs.length (nv xs)
  bel : Below w.heap.size w wr
theorem Kept.below {w : World} {c : C} {xs : List Int} {a : Option Addr} {n k : Nat} {wr w' : World} (h : Kept w c xs a n k wr) (hb : Below wr.heap.size wr w') : Kept w c xs a n k w' :=
  ⟨(hb.block _ (Array.getElem?_eq_some_iff.1 h.cbox).1).trans h.cbox, (hb.block _ (Array.getElem?_eq_some_iff.1 h.box).1).trans h.box, Ag.own_below h.row hb, h.bel.trans (hb.mono h.bel.size)⟩
theorem Kept.app {w : World} {c : C} {xs : List Int} {a : Option Addr} {n k : Nat} {wr w1 : World} (h : Kept w c xs a n k wr) {x : Int} {a1 : Option Addr} {n1 k1 : Nat} (ho : w1.ownsRow (w.heap.size + 2) 3 1 (.slice a1 n1 k1) (xs.length + 1) (nv xs ++ nv [x])) (hg : (wr.alloc (.cells #[.int .i64 x] 3)).grownBy w1 (Value.slice a n k).ownBlock) :
    w1.heap[w.heap.size + 1]? = some (.cells #[.slice a n k] 29 (0, 0)) ∧ Kept w c (xs ++ [x]) a1 n1 k1 (w1.setCell ⟨w.heap.size + 1, 0, none⟩ (.slice a1 n1 k1)) := by
  have hr := h.row.alloc (.cells #[.int .i64 x] 3)
  have hsz := (Array.getElem?_eq_some_iff.1 h.box).1
  have hB : Below (w.heap.size + 2) (wr.alloc (.cells #[.int .i64 x] 3)) w1 := Rj.below_of_grown hg hr (by simp; omega)
  have hB' : Below (w.heap.size + 2) wr w1 := ((Below.refl _ wr).alloc (by omega) _).trans hB
  have b1 := (hB'.block _ (by omega)).trans h.cbox
  have b2 := (hB'.block _ (by omega)).trans h.box
  have hne : (Value.slice a1 n1 k1).ownBlock ≠ some (w.heap.size + 1) := fun e => by have := (ho.lt _ e).1; omega
  refine ⟨b2, (Below.heap_setCell _ _ _ _ (by show w.heap.size ≠ w.heap.size + 1; omega)).trans b1, box_set _ b2, ?_, (h.bel.trans (hB'.mono (by omega))).setCell (by show w.heap.size ≤ w.heap.size + 1; omega) _⟩
  have := Kp.own_set ho hne 0 (.slice a1 n1 k1)
  rw [List.length_append, List.length_singleton]
  have e : nv (xs ++ [x]) = nv xs ++ nv [x] := by simp [nv]
  rw [e]
  exact this
end Go.Proofs.Ytcnanbimpajonaa.Ax
