/- Parts as they lie, each list with the room that it says; lists joined. No conditions. -/
import Derived.Test.YtbmgkgoghgdbhaaRn
namespace Go.Proofs.Ytbmgkgoghgdbhaa.Te
open Go.RowKit

def TyQ (w : World) : Nat → Ty → Option Addr → Nat → Prop
  | 0, _, _, _ => False
  | d + 1, t, a, c => t.kids.length ≤ c ∧ i64B t.kind ∧ i64B t.n ∧ t.kids.length ≤ 140737488355328 ∧ (t.kids.length = 0 ∨ ∃ g off, a = some ⟨g, off, none⟩ ∧ g < w.heap.size ∧ ∀ j (h : j < t.kids.length), ∃ a' c', w.cell? ⟨g, off + j * 3, none⟩ = some (.int .i64 t.kids[j].kind) ∧ w.cell? ⟨g, off + j * 3 + 1, none⟩ = some (.int .i64 t.kids[j].n) ∧ w.cell? ⟨g, off + j * 3 + 2, none⟩ = some (.slice a' t.kids[j].kids.length c') ∧ TyQ w d t.kids[j] a' c')
theorem TyQ.at {w : World} : ∀ {d : Nat} {t : Ty} {a : Option Addr} {c : Nat}, TyQ w d t a c → TyAt w d t a c := by
  intro d
  induction d with
  | zero => intro t a c h; exact h.elim
  | succ d ih =>
    intro t a c h
    obtain ⟨_, h1, h2, h3, h⟩ := h
    refine ⟨h1, h2, h3, ?_⟩
    rcases h with h | ⟨g, off, ha, hg, h⟩
    · exact .inl h
    · refine .inr ⟨g, off, ha, hg, fun j hj => ?_⟩
      obtain ⟨a', c', c0, c1, c2, ht⟩ := h j hj
      exact ⟨a', c', c0, c1, c2, ih ht⟩
theorem TyQ.below {w w' : World} (hb : Below w.heap.size w w') : ∀ {d : Nat} {t : Ty} {a : Option Addr} {c : Nat}, TyQ w d t a c → TyQ w' d t a c := by
  intro d
  induction d with
  | zero => intro t a c h; exact h.elim
  | succ d ih =>
    intro t a c h
    obtain ⟨h0, h1, h2, h3, h⟩ := h
    refine ⟨h0, h1, h2, h3, ?_⟩
    rcases h with h | ⟨g, off, ha, hg, h⟩
    · exact .inl h
    · refine .inr ⟨g, off, ha, Nat.lt_of_lt_of_le hg hb.size, fun j hj => ?_⟩
      obtain ⟨a', c', c0, c1, c2, ht⟩ := h j hj
      exact ⟨a', c', (hb.cell (p := ⟨g, _, none⟩) hg).trans c0, (hb.cell (p := ⟨g, _, none⟩) hg).trans c1, (hb.cell (p := ⟨g, _, none⟩) hg).trans c2, ih ht⟩
theorem TyQ.more {w : World} : ∀ {d : Nat} {t : Ty} {a : Option Addr} {c : Nat}, TyQ w d t a c → TyQ w (d + 1) t a c := by
  intro d
  induction d with
  | zero => intro t a c h; exact h.elim
  | succ d ih =>
    intro t a c h
    obtain ⟨h0, h1, h2, h3, h⟩ := h
    refine ⟨h0, h1, h2, h3, ?_⟩
    rcases h with h | ⟨g, off, ha, hg, h⟩
    · exact .inl h
    · refine .inr ⟨g, off, ha, hg, fun j hj => ?_⟩
      obtain ⟨a', c', c0, c1, c2, ht⟩ := h j hj
      exact ⟨a', c', c0, c1, c2, ih ht⟩
theorem TyQ.upto {w : World} {d e : Nat} {t : Ty} {a : Option Addr} {c : Nat} (h : TyQ w d t a c) (hd : d ≤ e) : TyQ w e t a c := by
  induction e with
  | zero =>
    have : d = 0 := by omega
    subst this
    exact h
  | succ e ih =>
    by_cases h' : d ≤ e
    · exact (ih h').more
    · have : d = e + 1 := by omega
      subst this
      exact h
theorem TyQ.pos {w : World} {d : Nat} {t : Ty} {a : Option Addr} {c : Nat} (h : TyQ w d t a c) : ∃ e, d = e + 1 := h.at.pos
theorem TyQ.kid {w : World} {d : Nat} {t : Ty} {a : Option Addr} {c : Nat} (h : TyQ w (d + 1) t a c) {j : Nat} (hj : j < t.kids.length) : ∃ g off a' c', a = some ⟨g, off, none⟩ ∧ g < w.heap.size ∧ w.cell? ⟨g, off + j * 3, none⟩ = some (.int .i64 t.kids[j].kind) ∧ w.cell? ⟨g, off + j * 3 + 1, none⟩ = some (.int .i64 t.kids[j].n) ∧ w.cell? ⟨g, off + j * 3 + 2, none⟩ = some (.slice a' t.kids[j].kids.length c') ∧ TyQ w d t.kids[j] a' c' := by
  obtain ⟨_, _, _, _, h | ⟨g, off, ha, hg, h⟩⟩ := h
  · omega
  · obtain ⟨a', c', h⟩ := h j hj
    exact ⟨g, off, a', c', ha, hg, h⟩
theorem TyQ.as {w : World} {d : Nat} {k0 n0 k n : Int} {ks : List Ty} {a : Option Addr} {c : Nat} (h : TyQ w (d + 1) ⟨k0, n0, ks⟩ a c) (hk : i64B k) (hn : i64B n) : TyQ w (d + 1) ⟨k, n, ks⟩ a c := ⟨h.1, hk, hn, h.2.2.2.1, h.2.2.2.2⟩
/-- a list of parts -/
abbrev LsQ (w : World) (d : Nat) (l : List Ty) (a : Option Addr) (c : Nat) : Prop := TyQ w (d + 1) ⟨0, 0, l⟩ a c
theorem zi : i64B 0 := by constructor <;> decide
theorem TyQ.ls {w : World} {d : Nat} {t : Ty} {a : Option Addr} {c : Nat} (h : TyQ w (d + 1) t a c) : LsQ w d t.kids a c := ⟨h.1, zi, zi, h.2.2.2.1, h.2.2.2.2⟩
theorem LsQ.take {w : World} {d : Nat} {l : List Ty} {g off c : Nat} (h : LsQ w d l (some ⟨g, off, none⟩) c) (i : Nat) : LsQ w d (l.take i) (some ⟨g, off, none⟩) c := by
  obtain ⟨h0, h1, h2, h3, h⟩ := h
  dsimp only at h0 h3 h
  refine ⟨by simp; omega, h1, h2, by simp; omega, ?_⟩
  rcases h with h | ⟨g', off', ha, hg, h⟩
  · left
    show (l.take i).length = 0
    rw [List.length_take]
    omega
  · refine .inr ⟨g', off', ha, hg, fun j hj => ?_⟩
    have hj' : j < i ∧ j < l.length := by simp at hj; omega
    obtain ⟨a', c', q⟩ := h j hj'.2
    refine ⟨a', c', ?_⟩
    simp only [List.getElem_take]
    exact q
theorem LsQ.drop {w : World} {d : Nat} {l : List Ty} {g off c : Nat} (h : LsQ w d l (some ⟨g, off, none⟩) c) (i : Nat) : LsQ w d (l.drop i) (some ⟨g, off + i * 3, none⟩) (c - i) := by
  obtain ⟨h0, h1, h2, h3, h⟩ := h
  dsimp only at h0 h3 h
  refine ⟨by simp; omega, h1, h2, by simp; omega, ?_⟩
  rcases h with h | ⟨g', off', ha, hg, h⟩
  · left
    show (l.drop i).length = 0
    rw [List.length_drop]
    omega
  · simp only [Option.some.injEq, Addr.mk.injEq, and_true] at ha
    obtain ⟨rfl, rfl⟩ := ha
    refine .inr ⟨g, off + i * 3, rfl, hg, fun j hj => ?_⟩
    have hj' : i + j < l.length := by simp at hj; omega
    obtain ⟨a', c', q⟩ := h (i + j) hj'
    refine ⟨a', c', ?_⟩
    simp only [List.getElem_drop]
    rw [show off + i * 3 + j * 3 = off + (i + j) * 3 by omega]
    exact q
theorem LsQ.tail {w : World} {d : Nat} {l : List Ty} {g off c : Nat} (h : LsQ w d l (some ⟨g, off, none⟩) c) (i : Nat) (hi : i ≤ l.length) : LsQ w d (l.drop i) (if c = i then some ⟨g, off, none⟩ else some ⟨g, off + i * 3, none⟩) (c - i) := by
  by_cases hc : c = i
  · rw [if_pos hc]
    have h0 := h.1
    dsimp only at h0
    have e : l.drop i = [] := List.drop_of_length_le (by omega)
    rw [e]
    exact ⟨by simp, zi, zi, by simp, .inl rfl⟩
  · rw [if_neg hc]
    exact h.drop i
theorem LsQ.addr {w : World} {d : Nat} {l : List Ty} {a : Option Addr} {c : Nat} (h : LsQ w d l a c) (h0 : 0 < l.length) : ∃ g off, a = some ⟨g, off, none⟩ ∧ g < w.heap.size := by
  obtain ⟨g, off, _, _, ha, hg, _⟩ := h.kid (j := 0) h0
  exact ⟨g, off, ha, hg⟩
theorem lsq_one {w : World} {d g : Nat} {x : Ty} {ax : Option Addr} {cx : Nat} (hx : TyQ w d x ax cx) (hh : w.heap[g]? = some (.cells #[.int .i64 x.kind, .int .i64 x.n, .slice ax x.kids.length cx] 24 (0, 0))) : LsQ w d [x] (some ⟨g, 0, none⟩) 1 := by
  refine ⟨by simp, zi, zi, by simp, .inr ⟨g, 0, rfl, lt_of_get hh, fun j hj => ?_⟩⟩
  have hj2 : j = 0 := by simp at hj; omega
  subst hj2
  exact ⟨ax, cx, cell_of_row _ _ 0 _ _ _ hh, cell_of_row _ _ 1 _ _ _ hh, cell_of_row _ _ 2 _ _ _ hh, hx⟩
/-- the first j of these parts lie so in a row -/
def RowQ (w : World) (d : Nat) (ks : List Ty) (xs : List Value) : Prop := ∀ i (_ : i < ks.length), ∃ a' c', xs[i * 3]? = some (.int .i64 ks[i].kind) ∧ xs[i * 3 + 1]? = some (.int .i64 ks[i].n) ∧ xs[i * 3 + 2]? = some (.slice a' ks[i].kids.length c') ∧ TyQ w d ks[i] a' c'
theorem RowQ.below {w w' : World} (hb : Below w.heap.size w w') {d : Nat} {ks : List Ty} {xs : List Value} (h : RowQ w d ks xs) : RowQ w' d ks xs := fun i hi => by
  obtain ⟨a', c', h0, h1, h2, h3⟩ := h i hi
  exact ⟨a', c', h0, h1, h2, h3.below hb⟩
theorem RowQ.join {w : World} {d : Nat} {l m : List Ty} {xs ys : List Value} (h : RowQ w d l xs) (hl : xs.length = l.length * 3) (h' : RowQ w d m ys) : RowQ w d (l ++ m) (xs ++ ys) := fun i hi => by
  by_cases hil : i < l.length
  · obtain ⟨a, c, h0, h1, h2, h3⟩ := h i hil
    have e1 : (l ++ m)[i] = l[i] := List.getElem_append_left hil
    refine ⟨a, c, ?_, ?_, ?_, ?_⟩
    · rw [List.getElem?_append_left (by omega), e1]; exact h0
    · rw [List.getElem?_append_left (by omega), e1]; exact h1
    · rw [List.getElem?_append_left (by omega), e1]; exact h2
    · rw [e1]; exact h3
  · have hi' : i - l.length < m.length := by simp at hi; omega
    obtain ⟨a, c, h0, h1, h2, h3⟩ := h' (i - l.length) hi'
    have e1 : (l ++ m)[i] = m[i - l.length] := List.getElem_append_right (by omega)
    refine ⟨a, c, ?_, ?_, ?_, ?_⟩
    · rw [List.getElem?_append_right (by omega), e1, show i * 3 - xs.length = (i - l.length) * 3 by omega]; exact h0
    · rw [List.getElem?_append_right (by omega), e1, show i * 3 + 1 - xs.length = (i - l.length) * 3 + 1 by omega]; exact h1
    · rw [List.getElem?_append_right (by omega), e1, show i * 3 + 2 - xs.length = (i - l.length) * 3 + 2 by omega]; exact h2
    · rw [e1]; exact h3
theorem RowQ.all {w : World} {d base : Nat} {ks : List Ty} {xs : List Value} {x : Option Addr} {m : Nat} (h : RowQ w d ks xs) (ho : w.ownsRow base 24 3 (.slice x ks.length m) ks.length xs) (hm : ks.length ≤ m) (hl : ks.length ≤ 140737488355328) : LsQ w d ks x m := by
  refine ⟨hm, zi, zi, hl, ?_⟩
  obtain ⟨h1, ⟨_, h0⟩ | ⟨g, cap, cur, hv, hg, hh, h2, h3, h4, h5⟩⟩ := ho
  · exact .inl h0
  · simp only [Value.slice.injEq, true_and] at hv
    obtain ⟨rfl, rfl⟩ := hv
    have ho2 : w.ownsRow base 24 3 (.slice (some ⟨g, 0, none⟩) ks.length m) ks.length xs := ⟨h1, .inr ⟨g, m, cur, rfl, hg, hh, h2, h3, h4, h5⟩⟩
    have hcell : ∀ q, q < ks.length * 3 → w.cell? ⟨g, q, none⟩ = xs[q]? := fun q hq => ho2.cellAt q hq
    refine .inr ⟨g, 0, rfl, (Array.getElem?_eq_some_iff.1 hh).1, fun j hj => ?_⟩
    have hj' : j < ks.length := hj
    obtain ⟨a', c', q0, q1, q2, q3⟩ := h j hj'
    exact ⟨a', c', by rw [Nat.zero_add, hcell _ (by omega)]; exact q0, by rw [Nat.zero_add, hcell _ (by omega)]; exact q1, by rw [Nat.zero_add, hcell _ (by omega)]; exact q2, q3⟩
/-- what a list's row is -/
theorem srcq_of {w : World} {d : Nat} {l : List Ty} {a : Option Addr} {c : Nat} (h : LsQ w d l a c) : ∃ xs, Src (fun _ => True) w d l a xs ∧ RowQ w d l xs := by
  obtain ⟨xs, hs⟩ := src_of (h.at.free)
  refine ⟨xs, hs, fun i hi => ?_⟩
  obtain ⟨s1, s2, s3, s4⟩ := hs
  obtain ⟨g, off, a', c', ha, hg, c0, c1, c2, ht⟩ := h.kid (j := i) hi
  dsimp only at c0 c1 c2 ht
  rcases s4 with s4 | ⟨g', off', ha', hg', hc⟩
  · omega
  · rw [ha] at ha'
    simp only [Option.some.injEq, Addr.mk.injEq, and_true] at ha'
    obtain ⟨rfl, rfl⟩ := ha'
    have get : ∀ j, j < l.length * 3 → xs[j]? = w.cell? ⟨g, off + j, none⟩ := fun j hj => by
      rw [List.getElem?_eq_getElem (by omega)]
      exact (hc j _ (List.getElem?_eq_getElem (by omega))).symm
    refine ⟨a', c', ?_, ?_, ?_, ht⟩
    · rw [get _ (by omega)]; exact c0
    · rw [get _ (by omega), ← Nat.add_assoc]; exact c1
    · rw [get _ (by omega), ← Nat.add_assoc]; exact c2
set_option maxHeartbeats 400000 in
set_option maxRecDepth 100000 in
theorem joinq_any {d : Nat} (B off cap : Nat) (ls : List (List Ty)) (fl : List Ty) (hfl : ls.flatten = fl) (w : World) (hB : B < w.heap.size) (hl : ls.length ≤ 1000) (hc : ∀ i (h : i < ls.length), ∃ a c, w.cell? ⟨B, off + i, none⟩ = some (.slice a (ls[i]).length c) ∧ LsQ w d ls[i] a c) (hs : fl.length ≤ 1000) :
    Calls Try.prog 52 #[.slice (some ⟨B, off, none⟩) ls.length cap] w fun e w' => ∃ a c, e = .returned (.slice a fl.length c) ∧ LsQ w' d fl a c ∧ Below w.heap.size w w' := by
  have HS : Hid (fl.length ≤ 1000) := hs
  have HC : Hid (∀ i (h : i < ls.length), ∃ a c, w.cell? ⟨B, off + i, none⟩ = some (.slice a (ls[i]).length c) ∧ LsQ w d ls[i] a c) := hc
  have HF : Hid (ls.flatten = fl) := hfl
  clear hs hc hfl
  go_enter Try.func52, Try.ntmps52
  go_wp2
  go_loopw [3, 4] (fun v i wr => ∃ (q : Nat) (xs : List Value), i = .int .i64 (q : Int) ∧ q ≤ ls.length ∧ wr.ownsRow w.heap.size 24 3 v (flat ls q).length xs ∧ RowQ w d (flat ls q) xs ∧ Below w.heap.size w wr) (fun _ i _ => ls.length - (intOf i).toNat)
  case atStart => exact ⟨0, [], rfl, by omega, ⟨rfl, .inl ⟨rfl, rfl⟩⟩, fun i hi => by simp [flat] at hi, Below.refl _ _⟩
  case round =>
    obtain ⟨q, xs, rfl, hq, hown, hrow, hbw⟩ := hrel
    have hsz := hbw.size
    by_cases hql : q < ls.length
    · have hql' : (q : Int) < (ls.length : Int) := by omega
      obtain ⟨a, c, hcell, hT⟩ := HC.out q hql
      obtain ⟨ys, hsrc, hys⟩ := srcq_of hT
      have hcell' : wr.cell? ⟨B, off + q, none⟩ = some (.slice a (ls[q]).length c) := (hbw.cell (p := ⟨B, off + q, none⟩) hB).trans hcell
      have e1 := flat_succ hql
      have e2 := flat_le ls (q + 1)
      rw [HF.out] at e2
      have e3 := HS.out
      have e4 := congrArg List.length e1
      rw [List.length_append] at e4
      have HYS : Hid (RowQ w d ls[q] ys) := hys
      have HT : Hid (LsQ w d ls[q] a c) := hT
      clear hys hT
      go_wp2_with (at_builtin; refine wpList_src w rfl (.tmp 11) (.tmp 15) rfl w.heap.size _ _ _ rfl hown c rfl hsrc hbw (by omega) hsz ?_; intro v' W2 hown2 hgrow2)
      go_roundw
      case rel =>
        refine ⟨q + 1, xs ++ ys, by go_num, by omega, ?_, ?_, hbw.grown hgrow2 hsz (fun j hj => (hown.lt j hj).1)⟩
        · rw [e1, List.length_append]; exact hown2
        · rw [e1]; exact hrow.join hown.1 HYS.out
      case measure => simp [intOf]; omega
    · have hql' : ¬ (q : Int) < (ls.length : Int) := by omega
      have ef := flat_all ls (k := q) (by omega)
      rw [HF.out] at ef
      rw [ef] at hown hrow
      clear ef
      have hle := HS.out
      have hv : ∀ V : Value, wr.ownsRow w.heap.size 24 3 V fl.length xs → ∃ x m, V = .slice x fl.length m ∧ fl.length ≤ m := by
        intro V hV
        rcases hV.2 with ⟨rfl, h0⟩ | ⟨g, cap, cur, rfl, _, _, hcap, _⟩
        · exact ⟨none, 0, by rw [h0], by omega⟩
        · exact ⟨_, _, rfl, hcap⟩
      obtain ⟨x, m, rfl, hroom⟩ := hv _ hown
      have HFF : Hid (LsQ wr d fl x m) := (hrow.below hbw).all hown hroom (by omega)
      clear hown hrow hv
      go_wp2
      go_ret
      exact ⟨x, m, rfl, HFF.out, hbw⟩
theorem joinq2 {d d2 : Nat} (B : Nat) (l m fl : List Ty) (hfl : l ++ m = fl) {a : Option Addr} {c : Nat} {a2 : Option Addr} {c2 : Nat} (w : World) (hh : w.heap[B]? = some (.cells #[.slice a l.length c, .slice a2 m.length c2] 22 (0, 0))) (hl : LsQ w d l a c) (hm : LsQ w d2 m a2 c2) (hs : fl.length ≤ 1000) :
    Calls Try.prog 52 #[.slice (some ⟨B, 0, none⟩) 2 2] w fun e w' => ∃ a c, e = .returned (.slice a fl.length c) ∧ LsQ w' (max d d2) fl a c ∧ Below w.heap.size w w' :=
  joinq_any (d := max d d2) B 0 2 [l, m] fl (by simpa using hfl) w (lt_of_get hh) (by simp) (fun i hi => by
    have hi2 : i = 0 ∨ i = 1 := by simp at hi; omega
    rcases hi2 with rfl | rfl
    · exact ⟨a, c, cell_of_row _ _ 0 _ _ _ hh, hl.upto (by omega)⟩
    · exact ⟨a2, c2, cell_of_row _ _ 1 _ _ _ hh, hm.upto (by omega)⟩) hs
theorem joinq3 {d d2 d3 : Nat} (B : Nat) (l m n fl : List Ty) (hfl : l ++ m ++ n = fl) {a : Option Addr} {c : Nat} {a2 : Option Addr} {c2 : Nat} {a3 : Option Addr} {c3 : Nat} (w : World) (hh : w.heap[B]? = some (.cells #[.slice a l.length c, .slice a2 m.length c2, .slice a3 n.length c3] 22 (0, 0))) (hl : LsQ w d l a c) (hm : LsQ w d2 m a2 c2) (hn : LsQ w d3 n a3 c3) (hs : fl.length ≤ 1000) :
    Calls Try.prog 52 #[.slice (some ⟨B, 0, none⟩) 3 3] w fun e w' => ∃ a c, e = .returned (.slice a fl.length c) ∧ LsQ w' (max (max d d2) d3) fl a c ∧ Below w.heap.size w w' :=
  joinq_any (d := max (max d d2) d3) B 0 3 [l, m, n] fl (by simpa using hfl) w (lt_of_get hh) (by simp) (fun i hi => by
    have hi2 : i = 0 ∨ i = 1 ∨ i = 2 := by simp at hi; omega
    rcases hi2 with rfl | rfl | rfl
    · exact ⟨a, c, cell_of_row _ _ 0 _ _ _ hh, hl.upto (by omega)⟩
    · exact ⟨a2, c2, cell_of_row _ _ 1 _ _ _ hh, hm.upto (by omega)⟩
    · exact ⟨a3, c3, cell_of_row _ _ 2 _ _ _ hh, hn.upto (by omega)⟩) hs
end Go.Proofs.Ytbmgkgoghgdbhaa.Te
