/- before of a step that is of one sequent or none; of one that is of two: beforeTwo. Conditions: the parts are right, few. -/
import Derived.Test.YtbmgkgoghgdbhaaSh
namespace Go.Proofs.Ytbmgkgoghgdbhaa.Te
open Go.RowKit

theorem size37 : (Try.prog.info? 37).map (·.size) = some 8 := by kernel_rfl
/-- what before answers -/
def BefQ (P : Nat → Prop) (d : Nat) (o : Option (List (List Ty × Ty))) (w : World) (e : Ending) (w' : World) : Prop := ∃ v r, e = .returned (.tuple #[v, .bool r]) ∧ Below w.heap.size w w' ∧ (o = none → r = false) ∧ (∀ ss, o = some ss → r = true ∧ SqsAt P w' d ss v)
theorem befQ_none {P : Nat → Prop} {d : Nat} {w w' : World} (h : Below w.heap.size w w') : BefQ P d none w (.returned (.tuple #[.slice none 0 0, .bool false])) w' := ⟨_, _, rfl, h, fun _ => rfl, fun _ h => by cases h⟩
theorem LsAt.tail {P : Nat → Prop} {w : World} {d : Nat} {l : List Ty} {g off c : Nat} (h : LsAt P w d l (some ⟨g, off, none⟩) c) (i : Nat) (hi : i ≤ l.length) : LsAt P w d (l.drop i) (if c = i then some ⟨g, off, none⟩ else some ⟨g, off + i * 3, none⟩) (c - i) := by
  by_cases e : c = i
  · have hc := h.2
    have : l.drop i = [] := List.drop_eq_nil_of_le (by omega)
    rw [this]
    exact ⟨tys_nil _ _ _ _, by simp⟩
  · rw [if_neg e]
    exact h.drop i
theorem below_drewN {n : Nat} {w w' : World} (h : Below n w w') (d : Nat) : Below n w (w'.drewN d) := ⟨h.os, h.tape, h.output, h.size, h.block⟩
section
variable {left : List Ty} {goal : Ty} {kids : List Pf} {i m : Nat}
theorem last_take {k : Nat} (hk : k < left.length) (e : i = k + 1) : (left.take i).getLast? = some left[k] ∧ (left.take i).dropLast = left.take k := by
  subst e
  have h := (List.take_append_getElem hk).symm
  constructor
  · rw [h, List.getLast?_concat]
  · rw [h, List.dropLast_concat]
theorem bef2_4 {k : Nat} (h1 : 1 ≤ m) (h2 : i + m ≤ left.length) (hk : k < left.length) (e : i = k + 1) (hk2 : left[k].kind = 2) : bef2 ⟨4, left, goal, i, m, kids⟩ = some [((left.drop i).take m, waT left[k]), (left.take k ++ [isT left[k]] ++ left.drop (i + m), goal)] := by
  unfold bef2
  rw [if_neg (by dsimp only; omega), if_pos rfl]
  dsimp only [Int.toNat_natCast]
  rw [(last_take hk e).1, (last_take hk e).2]
  dsimp only
  rw [if_pos hk2]
theorem bef2_4n {k : Nat} (h1 : 1 ≤ m) (h2 : i + m ≤ left.length) (hk : k < left.length) (e : i = k + 1) (hk2 : left[k].kind ≠ 2) : bef2 ⟨4, left, goal, i, m, kids⟩ = none := by
  unfold bef2
  rw [if_neg (by dsimp only; omega), if_pos rfl]
  dsimp only [Int.toNat_natCast]
  rw [(last_take hk e).1]
  dsimp only
  rw [if_neg hk2]
theorem bef2_40 (h1 : 1 ≤ m) (h2 : 0 + m ≤ left.length) : bef2 ⟨4, left, goal, 0, m, kids⟩ = none := by
  unfold bef2
  rw [if_neg (by dsimp only; omega), if_pos rfl]
  simp
theorem bef2_5 {t : Ty} {B : List Ty} (h1 : 1 ≤ m) (h2 : i + m ≤ left.length) (e : left.drop (i + m) = t :: B) (hk2 : t.kind = 3) : bef2 ⟨5, left, goal, i, m, kids⟩ = some [((left.drop i).take m, waT t), (left.take i ++ [isT t] ++ B, goal)] := by
  unfold bef2
  rw [if_neg (by dsimp only; omega), if_neg (by show ¬ (5 : Int) = 4; decide), if_pos rfl]
  dsimp only [Int.toNat_natCast]
  rw [e]
  dsimp only
  rw [if_pos hk2]
theorem bef2_5n {t : Ty} {B : List Ty} (h1 : 1 ≤ m) (h2 : i + m ≤ left.length) (e : left.drop (i + m) = t :: B) (hk2 : t.kind ≠ 3) : bef2 ⟨5, left, goal, i, m, kids⟩ = none := by
  unfold bef2
  rw [if_neg (by dsimp only; omega), if_neg (by show ¬ (5 : Int) = 4; decide), if_pos rfl]
  dsimp only [Int.toNat_natCast]
  rw [e]
  dsimp only
  rw [if_neg hk2]
theorem bef2_50 (h1 : 1 ≤ m) (h2 : i + m ≤ left.length) (e : left.drop (i + m) = []) : bef2 ⟨5, left, goal, i, m, kids⟩ = none := by
  unfold bef2
  rw [if_neg (by dsimp only; omega), if_neg (by show ¬ (5 : Int) = 4; decide), if_pos rfl]
  dsimp only [Int.toNat_natCast]
  rw [e]
theorem bef2_6 {k : Pf} {ks : List Pf} (h1 : 1 ≤ m) (h2 : i + m ≤ left.length) : bef2 ⟨6, left, goal, i, m, k :: ks⟩ = some [((left.drop i).take m, k.goal), (left.take i ++ [k.goal] ++ left.drop (i + m), goal)] := by
  unfold bef2
  rw [if_neg (by dsimp only; omega), if_neg (by show ¬ (6 : Int) = 4; decide), if_neg (by show ¬ (6 : Int) = 5; decide)]
  rfl
theorem bef2_60 (h1 : 1 ≤ m) (h2 : i + m ≤ left.length) : bef2 ⟨6, left, goal, i, m, []⟩ = none := by
  unfold bef2
  rw [if_neg (by dsimp only; omega), if_neg (by show ¬ (6 : Int) = 4; decide), if_neg (by show ¬ (6 : Int) = 5; decide)]
end
theorem befQ_two {P : Nat → Prop} {d : Nat} {w w5 : World} {o : Option (List (List Ty × Ty))} (h : Below w.heap.size w w5) {l1 l2 : List Ty} {g1 g2 : Ty} {a1 a2 x1 x2 : Option Addr} {c1 c2 y1 y2 : Nat} (ho : o = some [(l1, g1), (l2, g2)]) (hl1 : LsAt P w5 d l1 a1 c1) (hg1 : TyP P w5 d g1 x1 y1) (hl2 : LsAt P w5 d l2 a2 c2) (hg2 : TyP P w5 d g2 x2 y2) {n1 n2 : Nat} (hn1 : n1 = l1.length) (hn2 : n2 = l2.length) :
    BefQ P d o w (.returned (.tuple #[.slice (some ⟨w5.heap.size, 0, none⟩) 2 2, .bool true])) (w5.alloc (.cells #[.slice a1 n1 c1, .int .i64 g1.kind, .int .i64 g1.n, .slice x1 g1.kids.length y1, .slice a2 n2 c2, .int .i64 g2.kind, .int .i64 g2.n, .slice x2 g2.kids.length y2] 79)) := by
  subst hn1 hn2 ho
  have hb : Below w5.heap.size w5 (w5.alloc (.cells #[.slice a1 l1.length c1, .int .i64 g1.kind, .int .i64 g1.n, .slice x1 g1.kids.length y1, .slice a2 l2.length c2, .int .i64 g2.kind, .int .i64 g2.n, .slice x2 g2.kids.length y2] 79)) := (Below.refl _ _).alloc (Nat.le_refl _) _
  have hh := heap_alloc_new w5 (.cells #[.slice a1 l1.length c1, .int .i64 g1.kind, .int .i64 g1.n, .slice x1 g1.kids.length y1, .slice a2 l2.length c2, .int .i64 g2.kind, .int .i64 g2.n, .slice x2 g2.kids.length y2] 79)
  refine ⟨_, _, rfl, h.trans (hb.mono h.size), (fun e => by cases e), fun ss e => ⟨rfl, ?_⟩⟩
  cases e
  refine ⟨_, rfl, .inr ⟨w5.heap.size, rfl, lt_of_get hh, fun j hj => ?_⟩⟩
  have hj2 : j = 0 ∨ j = 1 := by simp at hj; omega
  rcases hj2 with rfl | rfl
  · exact ⟨a1, c1, x1, y1, ⟨cell_of_row _ _ 0 _ _ _ hh, cell_of_row _ _ 1 _ _ _ hh, cell_of_row _ _ 2 _ _ _ hh, cell_of_row _ _ 3 _ _ _ hh⟩, hl1.below hb, hg1.below hb⟩
  · exact ⟨a2, c2, x2, y2, ⟨cell_of_row _ _ 4 _ _ _ hh, cell_of_row _ _ 5 _ _ _ hh, cell_of_row _ _ 6 _ _ _ hh, cell_of_row _ _ 7 _ _ _ hh⟩, hl2.below hb, hg2.below hb⟩
theorem six_keep {W V : World} {b kg ko B : Nat} {O : Obj} {c0 c1 c2 : Value} (h : W.heap[b]? = some O ∧ W.cell? ⟨kg, ko + 2, none⟩ = some c0 ∧ W.cell? ⟨kg, ko + 3, none⟩ = some c1 ∧ W.cell? ⟨kg, ko + 4, none⟩ = some c2) (hk : ∀ q, q ≠ B → V.heap[q]? = W.heap[q]?) (hb : b ≠ B) (hg : kg ≠ B) :
    V.heap[b]? = some O ∧ V.cell? ⟨kg, ko + 2, none⟩ = some c0 ∧ V.cell? ⟨kg, ko + 3, none⟩ = some c1 ∧ V.cell? ⟨kg, ko + 4, none⟩ = some c2 :=
  ⟨(hk b hb).trans h.1, (cell_same (hk kg hg)).trans h.2.1, (cell_same (hk kg hg)).trans h.2.2.1, (cell_same (hk kg hg)).trans h.2.2.2⟩
theorem two_laid {w w3 : World} {O : Obj} {u v x u' v' x' : Value} (hB : Below w.heap.size w w3) (s1 : w3.heap[w.heap.size]? = some O) (s2 : w3.heap[w.heap.size + 1]? = some (.cells #[u, v, x] 24 (0, 0))) (s3 : w3.heap[w.heap.size + 2]? = some (.cells #[u', v', x'] 24 (0, 0))) (k n : Int) (a : Option Addr) (l m : Nat) (k' n' : Int) (a' : Option Addr) (l' m' : Nat) :
    ((((((w3.setCell ⟨w.heap.size + 1, 0, none⟩ (.int .i64 k)).setCell ⟨w.heap.size + 1, 1, none⟩ (.int .i64 n)).setCell ⟨w.heap.size + 1, 2, none⟩ (.slice a l m)).setCell ⟨w.heap.size + 1 + 1, 0, none⟩ (.int .i64 k')).setCell ⟨w.heap.size + 1 + 1, 1, none⟩ (.int .i64 n')).setCell ⟨w.heap.size + 1 + 1, 2, none⟩ (.slice a' l' m')).heap[w.heap.size]? = some O ∧
    ((((((w3.setCell ⟨w.heap.size + 1, 0, none⟩ (.int .i64 k)).setCell ⟨w.heap.size + 1, 1, none⟩ (.int .i64 n)).setCell ⟨w.heap.size + 1, 2, none⟩ (.slice a l m)).setCell ⟨w.heap.size + 1 + 1, 0, none⟩ (.int .i64 k')).setCell ⟨w.heap.size + 1 + 1, 1, none⟩ (.int .i64 n')).setCell ⟨w.heap.size + 1 + 1, 2, none⟩ (.slice a' l' m')).heap[w.heap.size + 1]? = some (.cells #[.int .i64 k, .int .i64 n, .slice a l m] 24 (0, 0)) ∧
    ((((((w3.setCell ⟨w.heap.size + 1, 0, none⟩ (.int .i64 k)).setCell ⟨w.heap.size + 1, 1, none⟩ (.int .i64 n)).setCell ⟨w.heap.size + 1, 2, none⟩ (.slice a l m)).setCell ⟨w.heap.size + 1 + 1, 0, none⟩ (.int .i64 k')).setCell ⟨w.heap.size + 1 + 1, 1, none⟩ (.int .i64 n')).setCell ⟨w.heap.size + 1 + 1, 2, none⟩ (.slice a' l' m')).heap[w.heap.size + 2]? = some (.cells #[.int .i64 k', .int .i64 n', .slice a' l' m'] 24 (0, 0)) ∧
    Below w.heap.size w ((((((w3.setCell ⟨w.heap.size + 1, 0, none⟩ (.int .i64 k)).setCell ⟨w.heap.size + 1, 1, none⟩ (.int .i64 n)).setCell ⟨w.heap.size + 1, 2, none⟩ (.slice a l m)).setCell ⟨w.heap.size + 1 + 1, 0, none⟩ (.int .i64 k')).setCell ⟨w.heap.size + 1 + 1, 1, none⟩ (.int .i64 n')).setCell ⟨w.heap.size + 1 + 1, 2, none⟩ (.slice a' l' m')) := by
  have k1 := ko3 w3 (w.heap.size + 1) (.int .i64 k) (.int .i64 n) (.slice a l m)
  have l1 := laid_box s2 k n a l m
  have hb1 := ((hB.setCell (p := ⟨w.heap.size + 1, 0, none⟩) (by show w.heap.size ≤ w.heap.size + 1; omega) (.int .i64 k)).setCell (p := ⟨w.heap.size + 1, 1, none⟩) (by show w.heap.size ≤ w.heap.size + 1; omega) (.int .i64 n)).setCell (p := ⟨w.heap.size + 1, 2, none⟩) (by show w.heap.size ≤ w.heap.size + 1; omega) (.slice a l m)
  have t1 := (k1 w.heap.size (by omega)).trans s1
  have t3 := (k1 (w.heap.size + 2) (by omega)).trans s3
  generalize ((w3.setCell ⟨w.heap.size + 1, 0, none⟩ (.int .i64 k)).setCell ⟨w.heap.size + 1, 1, none⟩ (.int .i64 n)).setCell ⟨w.heap.size + 1, 2, none⟩ (.slice a l m) = W at *
  have k2 := ko3 W (w.heap.size + 1 + 1) (.int .i64 k') (.int .i64 n') (.slice a' l' m')
  exact ⟨(k2 _ (by omega)).trans t1, (k2 _ (by omega)).trans l1, laid_box t3 k' n' a' l' m', ((hb1.setCell (p := ⟨w.heap.size + 1 + 1, 0, none⟩) (by show w.heap.size ≤ w.heap.size + 1 + 1; omega) (.int .i64 k')).setCell (p := ⟨w.heap.size + 1 + 1, 1, none⟩) (by show w.heap.size ≤ w.heap.size + 1 + 1; omega) (.int .i64 n')).setCell (p := ⟨w.heap.size + 1 + 1, 2, none⟩) (by show w.heap.size ≤ w.heap.size + 1 + 1; omega) (.slice a' l' m')⟩
theorem boxes3 (w : World) (nq : Nat) (a b c : Obj) : ((((w.alloc a).drewN nq).alloc b).alloc c).heap[w.heap.size]? = some a ∧ ((((w.alloc a).drewN nq).alloc b).alloc c).heap[w.heap.size + 1]? = some b ∧ ((((w.alloc a).drewN nq).alloc b).alloc c).heap[w.heap.size + 2]? = some c ∧ ((((w.alloc a).drewN nq).alloc b).alloc c).heap.size = w.heap.size + 3 ∧ Below w.heap.size w ((((w.alloc a).drewN nq).alloc b).alloc c) := by
  have e : ((w.alloc a).drewN nq).heap = (w.alloc a).heap := by simp
  have es : ((w.alloc a).drewN nq).heap.size = w.heap.size + 1 := by rw [e]; simp
  obtain ⟨h1, h2, h3, h4⟩ := two_boxes ((w.alloc a).drewN nq) b c
  rw [es] at h1 h2 h3 h4
  refine ⟨?_, h1, h2, by omega, ?_⟩
  · rw [h4.block _ (by omega), e]
    exact heap_alloc_new w a
  · exact (below_drewN ((Below.refl _ _).alloc (Nat.le_refl _) a) nq).trans (h4.mono (by omega))
set_option maxRecDepth 100000 in
set_option maxHeartbeats 1000000 in
theorem two_any {P : Nat → Prop} {d e0 : Nat} (p : Pf) (x : Pl) (w : World) (h : PfAt P w d (e0 + 1) p x) (hs : p.step = 4 ∨ p.step = 5 ∨ p.step = 6) (gl : ∀ t ∈ p.left, Gp t) (hle : p.left.length < 1000) (hP : ∀ g, w.heap.size ≤ g → P g) :
    Calls Try.prog 81 #[vpf p x] w fun e w' => BefQ P d (bef2 p) w e w' := by
  obtain ⟨⟨s1, s2⟩, ⟨i1, i2⟩, ⟨n1, n2⟩, hL, hG, hk, hK⟩ := h
  obtain ⟨step, left, goal, ix, n, kids⟩ := p
  obtain ⟨la, lc, ga, gc, ka, kc⟩ := x
  dsimp only at s1 s2 i1 i2 n1 n2 hL hG hk hK hs gl hle
  have HL : Hid (LsAt P w d left la lc) := hL
  have HG : Hid (TyP P w d goal ga gc) := hG
  have HK : Hid (kids.length = 0 ∨ ∃ g off, ka = some ⟨g, off, none⟩ ∧ g < w.heap.size ∧ P g ∧ ∀ j (h : j < kids.length), ∃ y, C8 w g (off + j * 8) kids[j] y ∧ PfAt P w d e0 kids[j] y) := hK
  have GL : Hid (∀ t ∈ left, Gp t) := gl
  have HS : Hid (step = 4 ∨ step = 5 ∨ step = 6) := hs
  have HPP : Hid (∀ g, w.heap.size ≤ g → P g) := hP
  clear hL hG hK gl hs hP
  unfold vpf
  dsimp only
  have hlen : (0 : Int) ≤ left.length ∧ (left.length : Int) < 1000 := by omega
  by_cases hbad : ix < 0 ∨ n < 1 ∨ (left.length : Int) < ix ∨ (left.length : Int) - ix < n
  · have hb2 : bef2 ⟨step, left, goal, ix, n, kids⟩ = none := by unfold bef2; rw [if_pos hbad]
    rw [hb2]
    clear hb2
    have hal := (Below.refl w.heap.size w).alloc (Nat.le_refl _) (.cells #[.int .i64 step, .slice la left.length lc, .int .i64 goal.kind, .int .i64 goal.n, .slice ga goal.kids.length gc, .int .i64 ix, .int .i64 n, .slice ka kids.length kc] 37)
    by_cases h1 : ix < 0
    · clear hbad
      go_enter Try.func81, Try.ntmps81
      go_wp2
      go_ret2
      exact befQ_none hal
    by_cases h2 : n < 1
    · clear hbad
      go_enter Try.func81, Try.ntmps81
      go_wp2
      go_ret2
      exact befQ_none hal
    by_cases h3 : (left.length : Int) < ix
    · clear hbad
      go_enter Try.func81, Try.ntmps81
      go_wp2
      go_ret2
      exact befQ_none hal
    have h4 : (left.length : Int) - ix < n := by omega
    clear hbad
    go_enter Try.func81, Try.ntmps81
    go_wp2
    go_ret2
    exact befQ_none hal
  · obtain ⟨i, rfl⟩ : ∃ i : Nat, ix = (i : Int) := ⟨ix.toNat, by omega⟩
    obtain ⟨m, rfl⟩ : ∃ m : Nat, n = (m : Int) := ⟨n.toNat, by omega⟩
    have HB : Hid (bef2 ⟨step, left, goal, i, m, kids⟩ = bef2 ⟨step, left, goal, i, m, kids⟩) := rfl
    have h1 : ¬ (i : Int) < 0 := by omega
    have h2 : ¬ (m : Int) < 1 := by omega
    have h3 : ¬ (left.length : Int) < (i : Int) := by omega
    have h4 : ¬ (left.length : Int) - (i : Int) < (m : Int) := by omega
    have hn1 : 1 ≤ m := by omega
    have hn2 : i + m ≤ left.length := by omega
    have hcap := HL.out.2
    clear hbad
    obtain ⟨g, off, rfl, hg⟩ := HL.out.addr (by omega)
    go_enter Try.func81, Try.ntmps81
    go_wp2
    go_quiet (fail)
    have hB := HL.out.tail (i + m) hn2
    have hBl : left.length - (i + m) = (left.drop (i + m)).length := by simp
    rw [hBl, show i + m - i = m by omega]
    generalize (if lc = i + m then (some ⟨g, off, none⟩ : Option Addr) else some ⟨g, off + (i + m) * 3, none⟩) = bA at *
    generalize hBd : left.drop (i + m) = B at *
    generalize lc - (i + m) = bC at *
    clear hBl
    go_upto_region 6 with fail
    have hbx := boxes3 w nq (.cells #[.int .i64 step, .slice (some ⟨g, off, none⟩) left.length lc, .int .i64 goal.kind, .int .i64 goal.n, .slice ga goal.kids.length gc, .int .i64 i, .int .i64 m, .slice ka kids.length kc] 37) (.cells #[.int .i64 0, .int .i64 0, .slice none 0 0] 24) (.cells #[.int .i64 0, .int .i64 0, .slice none 0 0] 24)
    generalize hV : (((w.alloc (.cells #[.int .i64 step, .slice (some ⟨g, off, none⟩) left.length lc, .int .i64 goal.kind, .int .i64 goal.n, .slice ga goal.kids.length gc, .int .i64 i, .int .i64 m, .slice ka kids.length kc] 37)).drewN nq).alloc (.cells #[.int .i64 0, .int .i64 0, .slice none 0 0] 24)).alloc (.cells #[.int .i64 0, .int .i64 0, .slice none 0 0] 24) = V at *
    clear hV
    obtain ⟨x1, x2, x3, hVs, hVb⟩ := hbx
    rcases HS.out with rfl | rfl | rfl
    · skip
      have s0 := cell_of_row _ _ 0 _ _ _ x1
      rcases Nat.eq_zero_or_pos i with rfl | hi
      · have s7 := cell_of_row _ _ 7 _ _ _ x1
        go_wp2
        go_ret2
        rw [bef2_40 hn1 hn2]
        exact befQ_none hVb
      obtain ⟨k, hk'⟩ : ∃ k, i = k + 1 := ⟨i - 1, by omega⟩
      have hkl : k < left.length := by omega
      have HKE : Hid (i = k + 1) := hk'
      have hik : ((i : Int) - 1).toNat = k := by omega
      have hik2 : (i : Int) - 1 = (k : Int) := by omega
      have hki : k < i := by omega
      clear hk'
      obtain ⟨a', c', _, y0, y1, y2, hT⟩ := HL.out.at (j := k) hkl
      have hGp := GL.out left[k] (List.getElem_mem _)
      have y0 := (hVb.cell (p := ⟨g, _, none⟩) hg).trans y0
      have y1 := (hVb.cell (p := ⟨g, _, none⟩) hg).trans y1
      have y2 := (hVb.cell (p := ⟨g, _, none⟩) hg).trans y2
      by_cases hk2 : left[k].kind = 2
      · obtain ⟨x, y, hxy⟩ : ∃ x y, left[k] = ov x y := by
          rcases gp_cases hGp with ⟨_, h, _⟩ | ⟨x, y, h, _⟩ | ⟨_, _, h, _⟩
          · rw [h] at hk2; simp [bs] at hk2
          · exact ⟨x, y, h⟩
          · rw [h] at hk2; simp [un] at hk2
        have HBE : Hid (bef2 ⟨4, left, goal, i, m, kids⟩ = some [((left.drop i).take m, y), (left.take k ++ [x] ++ B, goal)]) := by
          have := bef2_4 (goal := goal) (kids := kids) hn1 hn2 hkl HKE.out hk2
          rw [hxy, isT_ov, waT_ov, hBd] at this
          exact this
        rw [hxy] at y0 y1 y2 hT
        obtain ⟨d', rfl⟩ := hT.pos
        have K82 := sides_ovP x y a' c' w V hVb hT
        unfold vty ov at K82
        dsimp only at K82
        rw [show ([x, y] : List Ty).length = 2 from rfl] at K82
        dsimp only [ov] at y0 y1 y2
        rw [show ([x, y] : List Ty).length = 2 from rfl] at y2
        clear hT hGp hk2 hxy
        go_wp2_with (go_at_call 82; (with_reducible refine K82.mono ?_); rintro e3 w3 ⟨ax, cx, ay, cy, rfl, tx, ty, hb3⟩; have s1 := (hb3.block _ (lt_of_get x1)).trans x1; have s2 := (hb3.block _ (lt_of_get x2)).trans x2; have s3 := (hb3.block _ (lt_of_get x3)).trans x3; have m0 := cell_of_row _ _ 0 _ _ _ s2; have m1 := cell_of_row _ _ 1 _ _ _ s2; have m2 := cell_of_row _ _ 2 _ _ _ s2; have f0 := frozen_of_row _ _ 0 _ 24 s2; have f1 := frozen_of_row _ _ 1 _ 24 s2; have f2 := frozen_of_row _ _ 2 _ 24 s2; have n0 := cell_of_row _ _ 0 _ _ _ s3; have n1 := cell_of_row _ _ 1 _ _ _ s3; have n2 := cell_of_row _ _ 2 _ _ _ s3; have g0 := frozen_of_row _ _ 0 _ 24 s3; have g1 := frozen_of_row _ _ 1 _ 24 s3; have g2 := frozen_of_row _ _ 2 _ 24 s3; clear K82)
        have HA : Hid (LsAt P w (d' + 1) (left.take k) (some ⟨g, off, none⟩) lc) := HL.out.take k
        have HAl : Hid (k = (left.take k).length) := by show k = _; rw [List.length_take]; omega
        have HBB : Hid (LsAt P w (d' + 1) B bA bC) := hB
        have HLN : Hid ((left.take k).length + B.length < 1000) := by show _ < _; rw [← hBd, List.length_take, List.length_drop]; omega
        have h2l := two_laid (hVb.trans (hb3.mono hVb.size)) s1 s2 s3 x.kind x.n ax x.kids.length cx y.kind y.n ay y.kids.length cy
        generalize (((((w3.setCell ⟨w.heap.size + 1, 0, none⟩ (.int .i64 x.kind)).setCell ⟨w.heap.size + 1, 1, none⟩ (.int .i64 x.n)).setCell ⟨w.heap.size + 1, 2, none⟩ (.slice ax x.kids.length cx)).setCell ⟨w.heap.size + 1 + 1, 0, none⟩ (.int .i64 y.kind)).setCell ⟨w.heap.size + 1 + 1, 1, none⟩ (.int .i64 y.n)).setCell ⟨w.heap.size + 1 + 1, 2, none⟩ (.slice ay y.kids.length cy) = V2 at *
        obtain ⟨z1, z2, z3, hV2⟩ := h2l
        have HI : Hid (TyP P w (d' + 1) x ax cx) := tx.upto (by omega)
        have HW : Hid (TyP P w (d' + 1) y ay cy) := ty.upto (by omega)
        have HO : Hid (LsAt P w (d' + 1) ((left.drop i).take m) (some ⟨g, off + i * 3, none⟩) (lc - i)) := (HL.out.drop i).take m
        have HOl : Hid (m = ((left.drop i).take m).length) := by show m = _; rw [List.length_take, List.length_drop]; omega
        have K83 := around_any (P := P) (d := d' + 1) (left.take k) B x (some ⟨g, off, none⟩) lc bA bC ax cx V2.drew (HA.out.below hV2.drew).1 (HI.out.below hV2.drew) (HBB.out.below hV2.drew).1 HLN.out (fun q hq => HPP.out q (Nat.le_trans hV2.size hq))
        unfold vty at K83
        rw [← HAl.out] at K83
        refine wp_region_held_drew (S := fun W => W.heap[w.heap.size]? = some (.cells #[.int .i64 4, .slice (some ⟨g, off, none⟩) left.length lc, .int .i64 goal.kind, .int .i64 goal.n, .slice ga goal.kids.length gc, .int .i64 i, .int .i64 m, .slice ka kids.length kc] 37 (0, 0)) ∧ W.heap[w.heap.size + 1]? = some (.cells #[.int .i64 x.kind, .int .i64 x.n, .slice ax x.kids.length cx] 24 (0, 0)) ∧ W.heap[w.heap.size + 2]? = some (.cells #[.int .i64 y.kind, .int .i64 y.n, .slice ay y.kids.length cy] 24 (0, 0))) (by kernel_rfl) (by exact ⟨z1, z2, z3⟩) (fun hHeld => ?_)
        refine wpAnyH_take (i := 0) (oi := { dst := some 138, op := Op.move (Operand.tmp 5), type := 22, pos := "steps.go:64", after := #[], guard := none }) (v := ?_) rfl (by kernel_rfl) (by kernel_rfl) (by kernel_rfl) (fun _ _ _ h => h) (Or.inl ⟨by rfl, ?_⟩) (by assumption) ?_
        case refine_2 => intro w hSw; (try dsimp only at hSw); obtain ⟨hA, hB, hC⟩ := hSw; have p2 := cell_of_row _ _ 2 _ _ _ hA; have p3 := cell_of_row _ _ 3 _ _ _ hA; have p4 := cell_of_row _ _ 4 _ _ _ hA; have q0 := cell_of_row _ _ 0 _ _ _ hB; have q1 := cell_of_row _ _ 1 _ _ _ hB; have q2 := cell_of_row _ _ 2 _ _ _ hB; have r0 := cell_of_row _ _ 0 _ _ _ hC; have r1 := cell_of_row _ _ 1 _ _ _ hC; have r2 := cell_of_row _ _ 2 _ _ _ hC; go_simp; (try with_reducible rfl)
        simp only [Act.put, List.setIfInBounds_toArray, List.set_cons_zero, List.set_cons_succ]
        refine wpAnyH_take (i := 1) (oi := { dst := some 139, op := Op.load 24 (Operand.tmp 8), type := 24, pos := "steps.go:64", after := #[], guard := none }) (v := ?_) rfl (by kernel_rfl) (by kernel_rfl) (by kernel_rfl) (fun _ _ _ h => h) (Or.inl ⟨by rfl, ?_⟩) (by assumption) ?_
        case refine_2 => intro w hSw; (try dsimp only at hSw); obtain ⟨hA, hB, hC⟩ := hSw; have p2 := cell_of_row _ _ 2 _ _ _ hA; have p3 := cell_of_row _ _ 3 _ _ _ hA; have p4 := cell_of_row _ _ 4 _ _ _ hA; have q0 := cell_of_row _ _ 0 _ _ _ hB; have q1 := cell_of_row _ _ 1 _ _ _ hB; have q2 := cell_of_row _ _ 2 _ _ _ hB; have r0 := cell_of_row _ _ 0 _ _ _ hC; have r1 := cell_of_row _ _ 1 _ _ _ hC; have r2 := cell_of_row _ _ 2 _ _ _ hC; go_simp; (try with_reducible rfl)
        simp only [Act.put, List.setIfInBounds_toArray, List.set_cons_zero, List.set_cons_succ]
        refine wpAnyH_take (i := 2) (oi := { dst := some 140, op := Op.build 79 #[(0, Operand.tmp 138), (1, Operand.tmp 139)], type := 79, pos := "steps.go:64", after := #[{ on := 0, ground := Ground.data }, { on := 1, ground := Ground.data }], guard := none }) (v := ?_) rfl (by kernel_rfl) (by kernel_rfl) (by kernel_rfl) (fun _ _ _ h => h) (Or.inl ⟨by rfl, ?_⟩) (by assumption) ?_
        case refine_2 => intro w hSw; (try dsimp only at hSw); obtain ⟨hA, hB, hC⟩ := hSw; have p2 := cell_of_row _ _ 2 _ _ _ hA; have p3 := cell_of_row _ _ 3 _ _ _ hA; have p4 := cell_of_row _ _ 4 _ _ _ hA; have q0 := cell_of_row _ _ 0 _ _ _ hB; have q1 := cell_of_row _ _ 1 _ _ _ hB; have q2 := cell_of_row _ _ 2 _ _ _ hB; have r0 := cell_of_row _ _ 0 _ _ _ hC; have r1 := cell_of_row _ _ 1 _ _ _ hC; have r2 := cell_of_row _ _ 2 _ _ _ hC; go_simp; (try with_reducible rfl)
        simp only [Act.put, List.setIfInBounds_toArray, List.set_cons_zero, List.set_cons_succ]
        refine wpAnyH_take (i := 3) (oi := { dst := some 141, op := Op.move (Operand.tmp 4), type := 22, pos := "steps.go:64", after := #[], guard := none }) (v := ?_) rfl (by kernel_rfl) (by kernel_rfl) (by kernel_rfl) (fun _ _ _ h => h) (Or.inl ⟨by rfl, ?_⟩) (by assumption) ?_
        case refine_2 => intro w hSw; (try dsimp only at hSw); obtain ⟨hA, hB, hC⟩ := hSw; have p2 := cell_of_row _ _ 2 _ _ _ hA; have p3 := cell_of_row _ _ 3 _ _ _ hA; have p4 := cell_of_row _ _ 4 _ _ _ hA; have q0 := cell_of_row _ _ 0 _ _ _ hB; have q1 := cell_of_row _ _ 1 _ _ _ hB; have q2 := cell_of_row _ _ 2 _ _ _ hB; have r0 := cell_of_row _ _ 0 _ _ _ hC; have r1 := cell_of_row _ _ 1 _ _ _ hC; have r2 := cell_of_row _ _ 2 _ _ _ hC; go_simp; (try with_reducible rfl)
        simp only [Act.put, List.setIfInBounds_toArray, List.set_cons_zero, List.set_cons_succ]
        refine wpAnyH_take (i := 4) (oi := { dst := some 142, op := Op.load 24 (Operand.tmp 7), type := 24, pos := "steps.go:64", after := #[], guard := none }) (v := ?_) rfl (by kernel_rfl) (by kernel_rfl) (by kernel_rfl) (fun _ _ _ h => h) (Or.inl ⟨by rfl, ?_⟩) (by assumption) ?_
        case refine_2 => intro w hSw; (try dsimp only at hSw); obtain ⟨hA, hB, hC⟩ := hSw; have p2 := cell_of_row _ _ 2 _ _ _ hA; have p3 := cell_of_row _ _ 3 _ _ _ hA; have p4 := cell_of_row _ _ 4 _ _ _ hA; have q0 := cell_of_row _ _ 0 _ _ _ hB; have q1 := cell_of_row _ _ 1 _ _ _ hB; have q2 := cell_of_row _ _ 2 _ _ _ hB; have r0 := cell_of_row _ _ 0 _ _ _ hC; have r1 := cell_of_row _ _ 1 _ _ _ hC; have r2 := cell_of_row _ _ 2 _ _ _ hC; go_simp; (try with_reducible rfl)
        simp only [Act.put, List.setIfInBounds_toArray, List.set_cons_zero, List.set_cons_succ]
        refine wpAnyH_take (i := 5) (oi := { dst := some 143, op := Op.move (Operand.tmp 6), type := 22, pos := "steps.go:64", after := #[], guard := none }) (v := ?_) rfl (by kernel_rfl) (by kernel_rfl) (by kernel_rfl) (fun _ _ _ h => h) (Or.inl ⟨by rfl, ?_⟩) (by assumption) ?_
        case refine_2 => intro w hSw; (try dsimp only at hSw); obtain ⟨hA, hB, hC⟩ := hSw; have p2 := cell_of_row _ _ 2 _ _ _ hA; have p3 := cell_of_row _ _ 3 _ _ _ hA; have p4 := cell_of_row _ _ 4 _ _ _ hA; have q0 := cell_of_row _ _ 0 _ _ _ hB; have q1 := cell_of_row _ _ 1 _ _ _ hB; have q2 := cell_of_row _ _ 2 _ _ _ hB; have r0 := cell_of_row _ _ 0 _ _ _ hC; have r1 := cell_of_row _ _ 1 _ _ _ hC; have r2 := cell_of_row _ _ 2 _ _ _ hC; go_simp; (try with_reducible rfl)
        simp only [Act.put, List.setIfInBounds_toArray, List.set_cons_zero, List.set_cons_succ]
        refine wpAnyH_take (i := 7) (oi := { dst := some 145, op := Op.fieldAddr 37 (Operand.tmp 1) 2, type := 0, pos := "steps.go:64", after := #[], guard := none }) (v := ?_) rfl (by kernel_rfl) (by kernel_rfl) (by kernel_rfl) (fun _ _ _ h => h) (Or.inl ⟨by rfl, ?_⟩) (by assumption) ?_
        case refine_2 => intro w hSw; (try dsimp only at hSw); obtain ⟨hA, hB, hC⟩ := hSw; have p2 := cell_of_row _ _ 2 _ _ _ hA; have p3 := cell_of_row _ _ 3 _ _ _ hA; have p4 := cell_of_row _ _ 4 _ _ _ hA; have q0 := cell_of_row _ _ 0 _ _ _ hB; have q1 := cell_of_row _ _ 1 _ _ _ hB; have q2 := cell_of_row _ _ 2 _ _ _ hB; have r0 := cell_of_row _ _ 0 _ _ _ hC; have r1 := cell_of_row _ _ 1 _ _ _ hC; have r2 := cell_of_row _ _ 2 _ _ _ hC; go_simp; (try with_reducible rfl)
        simp only [Act.put, List.setIfInBounds_toArray, List.set_cons_zero, List.set_cons_succ]
        refine wpAnyH_take (i := 8) (oi := { dst := some 146, op := Op.load 24 (Operand.tmp 145), type := 24, pos := "steps.go:64", after := #[{ on := 7, ground := Ground.data }], guard := none }) (v := ?_) rfl (by kernel_rfl) (by kernel_rfl) (by kernel_rfl) (fun _ _ _ h => h) (Or.inl ⟨by rfl, ?_⟩) (by assumption) ?_
        case refine_2 => intro w hSw; (try dsimp only at hSw); obtain ⟨hA, hB, hC⟩ := hSw; have p2 := cell_of_row _ _ 2 _ _ _ hA; have p3 := cell_of_row _ _ 3 _ _ _ hA; have p4 := cell_of_row _ _ 4 _ _ _ hA; have q0 := cell_of_row _ _ 0 _ _ _ hB; have q1 := cell_of_row _ _ 1 _ _ _ hB; have q2 := cell_of_row _ _ 2 _ _ _ hB; have r0 := cell_of_row _ _ 0 _ _ _ hC; have r1 := cell_of_row _ _ 1 _ _ _ hC; have r2 := cell_of_row _ _ 2 _ _ _ hC; go_simp; (try with_reducible rfl)
        simp only [Act.put, List.setIfInBounds_toArray, List.set_cons_zero, List.set_cons_succ]
        refine wpAnyH_ready (rs := [6]) (by kernel_rfl) (by simp) ?_
        refine (AllReadyH.cons (o := { dst := some 144, op := Op.call { callee := Callee.value (Operand.func 83), args := #[Operand.tmp 141, Operand.tmp 142, Operand.tmp 143], argTypes := #[22, 24, 22] }, type := 22, pos := "steps.go:64", after := #[{ on := 3, ground := Ground.data }, { on := 4, ground := Ground.data }, { on := 5, ground := Ground.data }], guard := none }) rfl (fun K hK => ?_) AllReadyH.nil)
        go_simp
        (with_reducible refine K83.mono ?_)
        rintro e5 w5 ⟨a5, c5, rfl, hT5, hb5⟩
        clear K83
        dsimp only
        have hb6 : Below V2.heap.size V2 w5 := (Below.refl _ V2).drew.trans hb5
        have hcc : w5.heap[w.heap.size]? = some (.cells #[.int .i64 4, .slice (some ⟨g, off, none⟩) left.length lc, .int .i64 goal.kind, .int .i64 goal.n, .slice ga goal.kids.length gc, .int .i64 i, .int .i64 m, .slice ka kids.length kc] 37 (0, 0)) ∧ w5.heap[w.heap.size + 1]? = some (.cells #[.int .i64 x.kind, .int .i64 x.n, .slice ax x.kids.length cx] 24 (0, 0)) ∧ w5.heap[w.heap.size + 2]? = some (.cells #[.int .i64 y.kind, .int .i64 y.n, .slice ay y.kids.length cy] 24 (0, 0)) := ⟨(hb6.block _ (lt_of_get z1)).trans z1, (hb6.block _ (lt_of_get z2)).trans z2, (hb6.block _ (lt_of_get z3)).trans z3⟩
        have hw5 := hV2.trans (hb6.mono hV2.size)
        refine hK.out _ _ ?_ (fun hHeld => ?_)
        · exact hcc
        clear hK K
        try simp only [Act.put, List.setIfInBounds_toArray, List.set_cons_zero, List.set_cons_succ]
        refine wpAnyH_take (i := 9) (oi := { dst := some 147, op := Op.build 79 #[(0, Operand.tmp 144), (1, Operand.tmp 146)], type := 79, pos := "steps.go:64", after := #[{ on := 6, ground := Ground.data }, { on := 8, ground := Ground.data }], guard := none }) (v := ?_) rfl (by kernel_rfl) (by kernel_rfl) (by kernel_rfl) (fun _ _ _ h => h) (Or.inl ⟨by rfl, ?_⟩) (by assumption) ?_
        case refine_2 => intro w hSw; (try dsimp only at hSw); obtain ⟨hA, hB, hC⟩ := hSw; have p2 := cell_of_row _ _ 2 _ _ _ hA; have p3 := cell_of_row _ _ 3 _ _ _ hA; have p4 := cell_of_row _ _ 4 _ _ _ hA; have q0 := cell_of_row _ _ 0 _ _ _ hB; have q1 := cell_of_row _ _ 1 _ _ _ hB; have q2 := cell_of_row _ _ 2 _ _ _ hB; have r0 := cell_of_row _ _ 0 _ _ _ hC; have r1 := cell_of_row _ _ 1 _ _ _ hC; have r2 := cell_of_row _ _ 2 _ _ _ hC; go_simp; (try with_reducible rfl)
        simp only [Act.put, List.setIfInBounds_toArray, List.set_cons_zero, List.set_cons_succ]
        refine wpAnyH_ready (rs := [10]) (by kernel_rfl) (by simp) ?_
        refine (AllReadyH.cons (o := { dst := some 148, op := Op.buildSlice 88 2 #[(0, Operand.tmp 140), (1, Operand.tmp 147)], type := 88, pos := "steps.go:64", after := #[{ on := 2, ground := Ground.data }, { on := 9, ground := Ground.data }], guard := none }) rfl (fun K hK => ?_) AllReadyH.nil)
        go_simp
        refine hK.out _ _ ?_ (fun hHeld => ?_)
        · exact ⟨(((Below.refl _ w5).alloc (Nat.le_refl _) _).block _ (lt_of_get hcc.1)).trans hcc.1, (((Below.refl _ w5).alloc (Nat.le_refl _) _).block _ (lt_of_get hcc.2.1)).trans hcc.2.1, (((Below.refl _ w5).alloc (Nat.le_refl _) _).block _ (lt_of_get hcc.2.2)).trans hcc.2.2⟩
        clear hK K
        try simp only [Act.put, List.setIfInBounds_toArray, List.set_cons_zero, List.set_cons_succ]
        refine wpAnyH_take (i := 11) (oi := { dst := some 2, op := Op.assign (Operand.tmp 148), type := 88, pos := "steps.go:64", after := #[{ on := 10, ground := Ground.data }, { on := 6, ground := Ground.chain }, { on := 0, ground := Ground.phase }, { on := 1, ground := Ground.phase }, { on := 2, ground := Ground.phase }, { on := 3, ground := Ground.phase }, { on := 4, ground := Ground.phase }, { on := 5, ground := Ground.phase }, { on := 6, ground := Ground.phase }, { on := 7, ground := Ground.phase }, { on := 8, ground := Ground.phase }, { on := 9, ground := Ground.phase }, { on := 10, ground := Ground.phase }], guard := none }) (v := ?_) rfl (by kernel_rfl) (by kernel_rfl) (by kernel_rfl) (fun _ _ _ h => h) (Or.inl ⟨by rfl, ?_⟩) (by assumption) ?_
        case refine_2 => intro w hSw; (try dsimp only at hSw); obtain ⟨hA, hB, hC⟩ := hSw; have p2 := cell_of_row _ _ 2 _ _ _ hA; have p3 := cell_of_row _ _ 3 _ _ _ hA; have p4 := cell_of_row _ _ 4 _ _ _ hA; have q0 := cell_of_row _ _ 0 _ _ _ hB; have q1 := cell_of_row _ _ 1 _ _ _ hB; have q2 := cell_of_row _ _ 2 _ _ _ hB; have r0 := cell_of_row _ _ 0 _ _ _ hC; have r1 := cell_of_row _ _ 1 _ _ _ hC; have r2 := cell_of_row _ _ 2 _ _ _ hC; go_simp; (try with_reducible rfl)
        simp only [Act.put, List.setIfInBounds_toArray, List.set_cons_zero, List.set_cons_succ]
        refine wpAnyH_take (i := 12) (oi := { dst := some 3, op := Op.assign (Operand.const (Value.bool true)), type := 4, pos := "steps.go:64", after := #[{ on := 11, ground := Ground.chain }, { on := 0, ground := Ground.phase }, { on := 1, ground := Ground.phase }, { on := 2, ground := Ground.phase }, { on := 3, ground := Ground.phase }, { on := 4, ground := Ground.phase }, { on := 5, ground := Ground.phase }, { on := 6, ground := Ground.phase }, { on := 7, ground := Ground.phase }, { on := 8, ground := Ground.phase }, { on := 9, ground := Ground.phase }, { on := 10, ground := Ground.phase }, { on := 11, ground := Ground.phase }], guard := none }) (v := ?_) rfl (by kernel_rfl) (by kernel_rfl) (by kernel_rfl) (fun _ _ _ h => h) (Or.inl ⟨by rfl, ?_⟩) (by assumption) ?_
        case refine_2 => intro w hSw; (try dsimp only at hSw); obtain ⟨hA, hB, hC⟩ := hSw; have p2 := cell_of_row _ _ 2 _ _ _ hA; have p3 := cell_of_row _ _ 3 _ _ _ hA; have p4 := cell_of_row _ _ 4 _ _ _ hA; have q0 := cell_of_row _ _ 0 _ _ _ hB; have q1 := cell_of_row _ _ 1 _ _ _ hB; have q2 := cell_of_row _ _ 2 _ _ _ hB; have r0 := cell_of_row _ _ 0 _ _ _ hC; have r1 := cell_of_row _ _ 1 _ _ _ hC; have r2 := cell_of_row _ _ 2 _ _ _ hC; go_simp; (try with_reducible rfl)
        simp only [Act.put, List.setIfInBounds_toArray, List.set_cons_zero, List.set_cons_succ]
        refine wpAnyH_done (by kernel_rfl) ?_ _
        go_wp2_with fail
        go_ret2
        exact befQ_two hw5 HBE.out (HO.out.below hw5) (HW.out.below hw5) hT5 (HG.out.below hw5) HOl.out (by simp only [List.length_append, List.length_take, List.length_cons, List.length_nil]; (try omega))
      · have HBE : Hid (bef2 ⟨4, left, goal, i, m, kids⟩ = none) := bef2_4n hn1 hn2 hkl HKE.out hk2
        have s7 := cell_of_row _ _ 7 _ _ _ x1
        go_wp2
        go_ret2
        rw [HBE.out]
        exact befQ_none hVb
    · skip
      have s0 := cell_of_row _ _ 0 _ _ _ x1
      cases B with
      | nil =>
        have s7 := cell_of_row _ _ 7 _ _ _ x1
        go_wp2
        go_ret2
        rw [bef2_50 hn1 hn2 hBd]
        exact befQ_none hVb
      | cons t B =>
        obtain ⟨gb, ob, rfl, hgb⟩ := hB.addr (by simp)
        obtain ⟨a', c', _, y0, y1, y2, hT⟩ := hB.at (j := 0) (by simp)
        have hGp := GL.out t (List.mem_of_mem_drop (by rw [hBd]; simp))
        have hbc := hB.2
        have hB1 := hB.tail 1 (by simp)
        rw [List.length_cons] at hbc
        simp only [List.getElem_cons_zero, Nat.zero_mul, Nat.add_zero] at y0 y1 y2 hT
        have y0 := (hVb.cell (p := ⟨gb, _, none⟩) hgb).trans y0
        have y1 := (hVb.cell (p := ⟨gb, _, none⟩) hgb).trans y1
        have y2 := (hVb.cell (p := ⟨gb, _, none⟩) hgb).trans y2
        by_cases hk2 : t.kind = 3
        · obtain ⟨y, x, hxy⟩ : ∃ y x, t = un y x := by
            rcases gp_cases hGp with ⟨_, h, _⟩ | ⟨_, _, h, _⟩ | ⟨y, x, h, _⟩
            · rw [h] at hk2; simp [bs] at hk2
            · rw [h] at hk2; simp [ov] at hk2
            · exact ⟨y, x, h⟩
          have HBE : Hid (bef2 ⟨5, left, goal, i, m, kids⟩ = some [((left.drop i).take m, y), (left.take i ++ [x] ++ B, goal)]) := by
            have := bef2_5 (goal := goal) (kids := kids) hn1 hn2 hBd hk2
            rw [hxy, isT_un, waT_un] at this
            exact this
          have HLN : Hid ((left.take i).length + B.length < 1000) := by
            have := congrArg List.length hBd
            rw [List.length_drop, List.length_cons] at this
            show _ < _
            rw [List.length_take]
            omega
          have HB1 : Hid (LsAt P w d B (if bC = 1 then some ⟨gb, ob, none⟩ else some ⟨gb, ob + 1 * 3, none⟩) (bC - 1)) := hB1
          rw [hxy] at y0 y1 y2 hT
          obtain ⟨d', rfl⟩ := hT.pos
          have K82 := sides_unP x y a' c' w V hVb hT
          unfold vty un at K82
          dsimp only at K82
          rw [show ([y, x] : List Ty).length = 2 from rfl] at K82
          dsimp only [un] at y0 y1 y2
          rw [show ([y, x] : List Ty).length = 2 from rfl] at y2
          clear hT hGp hk2 hxy hB1 hB
          rcases Nat.lt_or_ge 1 bC with hb1 | hb1
          · skip
            have hne : ¬ bC = 1 := by omega
            rw [if_neg hne, Nat.one_mul] at HB1
            go_wp2_with (go_at_call 82; (with_reducible refine K82.mono ?_); rintro e3 w3 ⟨ax, cx, ay, cy, rfl, tx, ty, hb3⟩; have s1 := (hb3.block _ (lt_of_get x1)).trans x1; have s2 := (hb3.block _ (lt_of_get x2)).trans x2; have s3 := (hb3.block _ (lt_of_get x3)).trans x3; have m0 := cell_of_row _ _ 0 _ _ _ s2; have m1 := cell_of_row _ _ 1 _ _ _ s2; have m2 := cell_of_row _ _ 2 _ _ _ s2; have f0 := frozen_of_row _ _ 0 _ 24 s2; have f1 := frozen_of_row _ _ 1 _ 24 s2; have f2 := frozen_of_row _ _ 2 _ 24 s2; have n0 := cell_of_row _ _ 0 _ _ _ s3; have n1 := cell_of_row _ _ 1 _ _ _ s3; have n2 := cell_of_row _ _ 2 _ _ _ s3; have g0 := frozen_of_row _ _ 0 _ 24 s3; have g1 := frozen_of_row _ _ 1 _ 24 s3; have g2 := frozen_of_row _ _ 2 _ 24 s3; clear K82)
            have HA : Hid (LsAt P w (d' + 1) (left.take i) (some ⟨g, off, none⟩) lc) := HL.out.take i
            have HAl : Hid (i = (left.take i).length) := by show i = _; rw [List.length_take]; omega
            have HBB := HB1
            clear HB1
            have h2l := two_laid (hVb.trans (hb3.mono hVb.size)) s1 s2 s3 x.kind x.n ax x.kids.length cx y.kind y.n ay y.kids.length cy
            generalize (((((w3.setCell ⟨w.heap.size + 1, 0, none⟩ (.int .i64 x.kind)).setCell ⟨w.heap.size + 1, 1, none⟩ (.int .i64 x.n)).setCell ⟨w.heap.size + 1, 2, none⟩ (.slice ax x.kids.length cx)).setCell ⟨w.heap.size + 1 + 1, 0, none⟩ (.int .i64 y.kind)).setCell ⟨w.heap.size + 1 + 1, 1, none⟩ (.int .i64 y.n)).setCell ⟨w.heap.size + 1 + 1, 2, none⟩ (.slice ay y.kids.length cy) = V2 at *
            obtain ⟨z1, z2, z3, hV2⟩ := h2l
            have HI : Hid (TyP P w (d' + 1) x ax cx) := tx.upto (by omega)
            have HW : Hid (TyP P w (d' + 1) y ay cy) := ty.upto (by omega)
            have HO : Hid (LsAt P w (d' + 1) ((left.drop i).take m) (some ⟨g, off + i * 3, none⟩) (lc - i)) := (HL.out.drop i).take m
            have HOl : Hid (m = ((left.drop i).take m).length) := by show m = _; rw [List.length_take, List.length_drop]; omega
            have K83 := around_any (P := P) (d := d' + 1) (left.take i) B x (some ⟨g, off, none⟩) lc (some ⟨gb, ob + 3, none⟩) (bC - 1) ax cx V2.drew (HA.out.below hV2.drew).1 (HI.out.below hV2.drew) (HBB.out.below hV2.drew).1 HLN.out (fun q hq => HPP.out q (Nat.le_trans hV2.size hq))
            unfold vty at K83
            rw [← HAl.out] at K83
            refine wp_region_held_drew (S := fun W => W.heap[w.heap.size]? = some (.cells #[.int .i64 5, .slice (some ⟨g, off, none⟩) left.length lc, .int .i64 goal.kind, .int .i64 goal.n, .slice ga goal.kids.length gc, .int .i64 i, .int .i64 m, .slice ka kids.length kc] 37 (0, 0)) ∧ W.heap[w.heap.size + 1]? = some (.cells #[.int .i64 x.kind, .int .i64 x.n, .slice ax x.kids.length cx] 24 (0, 0)) ∧ W.heap[w.heap.size + 2]? = some (.cells #[.int .i64 y.kind, .int .i64 y.n, .slice ay y.kids.length cy] 24 (0, 0))) (by kernel_rfl) (by exact ⟨z1, z2, z3⟩) (fun hHeld => ?_)
            refine wpAnyH_take (i := 0) (oi := { dst := some 138, op := Op.move (Operand.tmp 5), type := 22, pos := "steps.go:64", after := #[], guard := none }) (v := ?_) rfl (by kernel_rfl) (by kernel_rfl) (by kernel_rfl) (fun _ _ _ h => h) (Or.inl ⟨by rfl, ?_⟩) (by assumption) ?_
            case refine_2 => intro w hSw; (try dsimp only at hSw); obtain ⟨hA, hB, hC⟩ := hSw; have p2 := cell_of_row _ _ 2 _ _ _ hA; have p3 := cell_of_row _ _ 3 _ _ _ hA; have p4 := cell_of_row _ _ 4 _ _ _ hA; have q0 := cell_of_row _ _ 0 _ _ _ hB; have q1 := cell_of_row _ _ 1 _ _ _ hB; have q2 := cell_of_row _ _ 2 _ _ _ hB; have r0 := cell_of_row _ _ 0 _ _ _ hC; have r1 := cell_of_row _ _ 1 _ _ _ hC; have r2 := cell_of_row _ _ 2 _ _ _ hC; go_simp; (try with_reducible rfl)
            simp only [Act.put, List.setIfInBounds_toArray, List.set_cons_zero, List.set_cons_succ]
            refine wpAnyH_take (i := 1) (oi := { dst := some 139, op := Op.load 24 (Operand.tmp 8), type := 24, pos := "steps.go:64", after := #[], guard := none }) (v := ?_) rfl (by kernel_rfl) (by kernel_rfl) (by kernel_rfl) (fun _ _ _ h => h) (Or.inl ⟨by rfl, ?_⟩) (by assumption) ?_
            case refine_2 => intro w hSw; (try dsimp only at hSw); obtain ⟨hA, hB, hC⟩ := hSw; have p2 := cell_of_row _ _ 2 _ _ _ hA; have p3 := cell_of_row _ _ 3 _ _ _ hA; have p4 := cell_of_row _ _ 4 _ _ _ hA; have q0 := cell_of_row _ _ 0 _ _ _ hB; have q1 := cell_of_row _ _ 1 _ _ _ hB; have q2 := cell_of_row _ _ 2 _ _ _ hB; have r0 := cell_of_row _ _ 0 _ _ _ hC; have r1 := cell_of_row _ _ 1 _ _ _ hC; have r2 := cell_of_row _ _ 2 _ _ _ hC; go_simp; (try with_reducible rfl)
            simp only [Act.put, List.setIfInBounds_toArray, List.set_cons_zero, List.set_cons_succ]
            refine wpAnyH_take (i := 2) (oi := { dst := some 140, op := Op.build 79 #[(0, Operand.tmp 138), (1, Operand.tmp 139)], type := 79, pos := "steps.go:64", after := #[{ on := 0, ground := Ground.data }, { on := 1, ground := Ground.data }], guard := none }) (v := ?_) rfl (by kernel_rfl) (by kernel_rfl) (by kernel_rfl) (fun _ _ _ h => h) (Or.inl ⟨by rfl, ?_⟩) (by assumption) ?_
            case refine_2 => intro w hSw; (try dsimp only at hSw); obtain ⟨hA, hB, hC⟩ := hSw; have p2 := cell_of_row _ _ 2 _ _ _ hA; have p3 := cell_of_row _ _ 3 _ _ _ hA; have p4 := cell_of_row _ _ 4 _ _ _ hA; have q0 := cell_of_row _ _ 0 _ _ _ hB; have q1 := cell_of_row _ _ 1 _ _ _ hB; have q2 := cell_of_row _ _ 2 _ _ _ hB; have r0 := cell_of_row _ _ 0 _ _ _ hC; have r1 := cell_of_row _ _ 1 _ _ _ hC; have r2 := cell_of_row _ _ 2 _ _ _ hC; go_simp; (try with_reducible rfl)
            simp only [Act.put, List.setIfInBounds_toArray, List.set_cons_zero, List.set_cons_succ]
            refine wpAnyH_take (i := 3) (oi := { dst := some 141, op := Op.move (Operand.tmp 4), type := 22, pos := "steps.go:64", after := #[], guard := none }) (v := ?_) rfl (by kernel_rfl) (by kernel_rfl) (by kernel_rfl) (fun _ _ _ h => h) (Or.inl ⟨by rfl, ?_⟩) (by assumption) ?_
            case refine_2 => intro w hSw; (try dsimp only at hSw); obtain ⟨hA, hB, hC⟩ := hSw; have p2 := cell_of_row _ _ 2 _ _ _ hA; have p3 := cell_of_row _ _ 3 _ _ _ hA; have p4 := cell_of_row _ _ 4 _ _ _ hA; have q0 := cell_of_row _ _ 0 _ _ _ hB; have q1 := cell_of_row _ _ 1 _ _ _ hB; have q2 := cell_of_row _ _ 2 _ _ _ hB; have r0 := cell_of_row _ _ 0 _ _ _ hC; have r1 := cell_of_row _ _ 1 _ _ _ hC; have r2 := cell_of_row _ _ 2 _ _ _ hC; go_simp; (try with_reducible rfl)
            simp only [Act.put, List.setIfInBounds_toArray, List.set_cons_zero, List.set_cons_succ]
            refine wpAnyH_take (i := 4) (oi := { dst := some 142, op := Op.load 24 (Operand.tmp 7), type := 24, pos := "steps.go:64", after := #[], guard := none }) (v := ?_) rfl (by kernel_rfl) (by kernel_rfl) (by kernel_rfl) (fun _ _ _ h => h) (Or.inl ⟨by rfl, ?_⟩) (by assumption) ?_
            case refine_2 => intro w hSw; (try dsimp only at hSw); obtain ⟨hA, hB, hC⟩ := hSw; have p2 := cell_of_row _ _ 2 _ _ _ hA; have p3 := cell_of_row _ _ 3 _ _ _ hA; have p4 := cell_of_row _ _ 4 _ _ _ hA; have q0 := cell_of_row _ _ 0 _ _ _ hB; have q1 := cell_of_row _ _ 1 _ _ _ hB; have q2 := cell_of_row _ _ 2 _ _ _ hB; have r0 := cell_of_row _ _ 0 _ _ _ hC; have r1 := cell_of_row _ _ 1 _ _ _ hC; have r2 := cell_of_row _ _ 2 _ _ _ hC; go_simp; (try with_reducible rfl)
            simp only [Act.put, List.setIfInBounds_toArray, List.set_cons_zero, List.set_cons_succ]
            refine wpAnyH_take (i := 5) (oi := { dst := some 143, op := Op.move (Operand.tmp 6), type := 22, pos := "steps.go:64", after := #[], guard := none }) (v := ?_) rfl (by kernel_rfl) (by kernel_rfl) (by kernel_rfl) (fun _ _ _ h => h) (Or.inl ⟨by rfl, ?_⟩) (by assumption) ?_
            case refine_2 => intro w hSw; (try dsimp only at hSw); obtain ⟨hA, hB, hC⟩ := hSw; have p2 := cell_of_row _ _ 2 _ _ _ hA; have p3 := cell_of_row _ _ 3 _ _ _ hA; have p4 := cell_of_row _ _ 4 _ _ _ hA; have q0 := cell_of_row _ _ 0 _ _ _ hB; have q1 := cell_of_row _ _ 1 _ _ _ hB; have q2 := cell_of_row _ _ 2 _ _ _ hB; have r0 := cell_of_row _ _ 0 _ _ _ hC; have r1 := cell_of_row _ _ 1 _ _ _ hC; have r2 := cell_of_row _ _ 2 _ _ _ hC; go_simp; (try with_reducible rfl)
            simp only [Act.put, List.setIfInBounds_toArray, List.set_cons_zero, List.set_cons_succ]
            refine wpAnyH_take (i := 7) (oi := { dst := some 145, op := Op.fieldAddr 37 (Operand.tmp 1) 2, type := 0, pos := "steps.go:64", after := #[], guard := none }) (v := ?_) rfl (by kernel_rfl) (by kernel_rfl) (by kernel_rfl) (fun _ _ _ h => h) (Or.inl ⟨by rfl, ?_⟩) (by assumption) ?_
            case refine_2 => intro w hSw; (try dsimp only at hSw); obtain ⟨hA, hB, hC⟩ := hSw; have p2 := cell_of_row _ _ 2 _ _ _ hA; have p3 := cell_of_row _ _ 3 _ _ _ hA; have p4 := cell_of_row _ _ 4 _ _ _ hA; have q0 := cell_of_row _ _ 0 _ _ _ hB; have q1 := cell_of_row _ _ 1 _ _ _ hB; have q2 := cell_of_row _ _ 2 _ _ _ hB; have r0 := cell_of_row _ _ 0 _ _ _ hC; have r1 := cell_of_row _ _ 1 _ _ _ hC; have r2 := cell_of_row _ _ 2 _ _ _ hC; go_simp; (try with_reducible rfl)
            simp only [Act.put, List.setIfInBounds_toArray, List.set_cons_zero, List.set_cons_succ]
            refine wpAnyH_take (i := 8) (oi := { dst := some 146, op := Op.load 24 (Operand.tmp 145), type := 24, pos := "steps.go:64", after := #[{ on := 7, ground := Ground.data }], guard := none }) (v := ?_) rfl (by kernel_rfl) (by kernel_rfl) (by kernel_rfl) (fun _ _ _ h => h) (Or.inl ⟨by rfl, ?_⟩) (by assumption) ?_
            case refine_2 => intro w hSw; (try dsimp only at hSw); obtain ⟨hA, hB, hC⟩ := hSw; have p2 := cell_of_row _ _ 2 _ _ _ hA; have p3 := cell_of_row _ _ 3 _ _ _ hA; have p4 := cell_of_row _ _ 4 _ _ _ hA; have q0 := cell_of_row _ _ 0 _ _ _ hB; have q1 := cell_of_row _ _ 1 _ _ _ hB; have q2 := cell_of_row _ _ 2 _ _ _ hB; have r0 := cell_of_row _ _ 0 _ _ _ hC; have r1 := cell_of_row _ _ 1 _ _ _ hC; have r2 := cell_of_row _ _ 2 _ _ _ hC; go_simp; (try with_reducible rfl)
            simp only [Act.put, List.setIfInBounds_toArray, List.set_cons_zero, List.set_cons_succ]
            refine wpAnyH_ready (rs := [6]) (by kernel_rfl) (by simp) ?_
            refine (AllReadyH.cons (o := { dst := some 144, op := Op.call { callee := Callee.value (Operand.func 83), args := #[Operand.tmp 141, Operand.tmp 142, Operand.tmp 143], argTypes := #[22, 24, 22] }, type := 22, pos := "steps.go:64", after := #[{ on := 3, ground := Ground.data }, { on := 4, ground := Ground.data }, { on := 5, ground := Ground.data }], guard := none }) rfl (fun K hK => ?_) AllReadyH.nil)
            go_simp
            (with_reducible refine K83.mono ?_)
            rintro e5 w5 ⟨a5, c5, rfl, hT5, hb5⟩
            clear K83
            dsimp only
            have hb6 : Below V2.heap.size V2 w5 := (Below.refl _ V2).drew.trans hb5
            have hcc : w5.heap[w.heap.size]? = some (.cells #[.int .i64 5, .slice (some ⟨g, off, none⟩) left.length lc, .int .i64 goal.kind, .int .i64 goal.n, .slice ga goal.kids.length gc, .int .i64 i, .int .i64 m, .slice ka kids.length kc] 37 (0, 0)) ∧ w5.heap[w.heap.size + 1]? = some (.cells #[.int .i64 x.kind, .int .i64 x.n, .slice ax x.kids.length cx] 24 (0, 0)) ∧ w5.heap[w.heap.size + 2]? = some (.cells #[.int .i64 y.kind, .int .i64 y.n, .slice ay y.kids.length cy] 24 (0, 0)) := ⟨(hb6.block _ (lt_of_get z1)).trans z1, (hb6.block _ (lt_of_get z2)).trans z2, (hb6.block _ (lt_of_get z3)).trans z3⟩
            have hw5 := hV2.trans (hb6.mono hV2.size)
            refine hK.out _ _ ?_ (fun hHeld => ?_)
            · exact hcc
            clear hK K
            try simp only [Act.put, List.setIfInBounds_toArray, List.set_cons_zero, List.set_cons_succ]
            refine wpAnyH_take (i := 9) (oi := { dst := some 147, op := Op.build 79 #[(0, Operand.tmp 144), (1, Operand.tmp 146)], type := 79, pos := "steps.go:64", after := #[{ on := 6, ground := Ground.data }, { on := 8, ground := Ground.data }], guard := none }) (v := ?_) rfl (by kernel_rfl) (by kernel_rfl) (by kernel_rfl) (fun _ _ _ h => h) (Or.inl ⟨by rfl, ?_⟩) (by assumption) ?_
            case refine_2 => intro w hSw; (try dsimp only at hSw); obtain ⟨hA, hB, hC⟩ := hSw; have p2 := cell_of_row _ _ 2 _ _ _ hA; have p3 := cell_of_row _ _ 3 _ _ _ hA; have p4 := cell_of_row _ _ 4 _ _ _ hA; have q0 := cell_of_row _ _ 0 _ _ _ hB; have q1 := cell_of_row _ _ 1 _ _ _ hB; have q2 := cell_of_row _ _ 2 _ _ _ hB; have r0 := cell_of_row _ _ 0 _ _ _ hC; have r1 := cell_of_row _ _ 1 _ _ _ hC; have r2 := cell_of_row _ _ 2 _ _ _ hC; go_simp; (try with_reducible rfl)
            simp only [Act.put, List.setIfInBounds_toArray, List.set_cons_zero, List.set_cons_succ]
            refine wpAnyH_ready (rs := [10]) (by kernel_rfl) (by simp) ?_
            refine (AllReadyH.cons (o := { dst := some 148, op := Op.buildSlice 88 2 #[(0, Operand.tmp 140), (1, Operand.tmp 147)], type := 88, pos := "steps.go:64", after := #[{ on := 2, ground := Ground.data }, { on := 9, ground := Ground.data }], guard := none }) rfl (fun K hK => ?_) AllReadyH.nil)
            go_simp
            refine hK.out _ _ ?_ (fun hHeld => ?_)
            · exact ⟨(((Below.refl _ w5).alloc (Nat.le_refl _) _).block _ (lt_of_get hcc.1)).trans hcc.1, (((Below.refl _ w5).alloc (Nat.le_refl _) _).block _ (lt_of_get hcc.2.1)).trans hcc.2.1, (((Below.refl _ w5).alloc (Nat.le_refl _) _).block _ (lt_of_get hcc.2.2)).trans hcc.2.2⟩
            clear hK K
            try simp only [Act.put, List.setIfInBounds_toArray, List.set_cons_zero, List.set_cons_succ]
            refine wpAnyH_take (i := 11) (oi := { dst := some 2, op := Op.assign (Operand.tmp 148), type := 88, pos := "steps.go:64", after := #[{ on := 10, ground := Ground.data }, { on := 6, ground := Ground.chain }, { on := 0, ground := Ground.phase }, { on := 1, ground := Ground.phase }, { on := 2, ground := Ground.phase }, { on := 3, ground := Ground.phase }, { on := 4, ground := Ground.phase }, { on := 5, ground := Ground.phase }, { on := 6, ground := Ground.phase }, { on := 7, ground := Ground.phase }, { on := 8, ground := Ground.phase }, { on := 9, ground := Ground.phase }, { on := 10, ground := Ground.phase }], guard := none }) (v := ?_) rfl (by kernel_rfl) (by kernel_rfl) (by kernel_rfl) (fun _ _ _ h => h) (Or.inl ⟨by rfl, ?_⟩) (by assumption) ?_
            case refine_2 => intro w hSw; (try dsimp only at hSw); obtain ⟨hA, hB, hC⟩ := hSw; have p2 := cell_of_row _ _ 2 _ _ _ hA; have p3 := cell_of_row _ _ 3 _ _ _ hA; have p4 := cell_of_row _ _ 4 _ _ _ hA; have q0 := cell_of_row _ _ 0 _ _ _ hB; have q1 := cell_of_row _ _ 1 _ _ _ hB; have q2 := cell_of_row _ _ 2 _ _ _ hB; have r0 := cell_of_row _ _ 0 _ _ _ hC; have r1 := cell_of_row _ _ 1 _ _ _ hC; have r2 := cell_of_row _ _ 2 _ _ _ hC; go_simp; (try with_reducible rfl)
            simp only [Act.put, List.setIfInBounds_toArray, List.set_cons_zero, List.set_cons_succ]
            refine wpAnyH_take (i := 12) (oi := { dst := some 3, op := Op.assign (Operand.const (Value.bool true)), type := 4, pos := "steps.go:64", after := #[{ on := 11, ground := Ground.chain }, { on := 0, ground := Ground.phase }, { on := 1, ground := Ground.phase }, { on := 2, ground := Ground.phase }, { on := 3, ground := Ground.phase }, { on := 4, ground := Ground.phase }, { on := 5, ground := Ground.phase }, { on := 6, ground := Ground.phase }, { on := 7, ground := Ground.phase }, { on := 8, ground := Ground.phase }, { on := 9, ground := Ground.phase }, { on := 10, ground := Ground.phase }, { on := 11, ground := Ground.phase }], guard := none }) (v := ?_) rfl (by kernel_rfl) (by kernel_rfl) (by kernel_rfl) (fun _ _ _ h => h) (Or.inl ⟨by rfl, ?_⟩) (by assumption) ?_
            case refine_2 => intro w hSw; (try dsimp only at hSw); obtain ⟨hA, hB, hC⟩ := hSw; have p2 := cell_of_row _ _ 2 _ _ _ hA; have p3 := cell_of_row _ _ 3 _ _ _ hA; have p4 := cell_of_row _ _ 4 _ _ _ hA; have q0 := cell_of_row _ _ 0 _ _ _ hB; have q1 := cell_of_row _ _ 1 _ _ _ hB; have q2 := cell_of_row _ _ 2 _ _ _ hB; have r0 := cell_of_row _ _ 0 _ _ _ hC; have r1 := cell_of_row _ _ 1 _ _ _ hC; have r2 := cell_of_row _ _ 2 _ _ _ hC; go_simp; (try with_reducible rfl)
            simp only [Act.put, List.setIfInBounds_toArray, List.set_cons_zero, List.set_cons_succ]
            refine wpAnyH_done (by kernel_rfl) ?_ _
            go_wp2_with fail
            go_ret2
            exact befQ_two hw5 HBE.out (HO.out.below hw5) (HW.out.below hw5) hT5 (HG.out.below hw5) HOl.out (by simp only [List.length_append, List.length_take, List.length_cons, List.length_nil]; (try omega))
          · skip
            obtain rfl : bC = 1 := by omega
            obtain rfl : B = [] := List.length_eq_zero_iff.1 (by omega)
            rw [if_pos rfl] at HB1
            go_wp2_with (go_at_call 82; (with_reducible refine K82.mono ?_); rintro e3 w3 ⟨ax, cx, ay, cy, rfl, tx, ty, hb3⟩; have s1 := (hb3.block _ (lt_of_get x1)).trans x1; have s2 := (hb3.block _ (lt_of_get x2)).trans x2; have s3 := (hb3.block _ (lt_of_get x3)).trans x3; have m0 := cell_of_row _ _ 0 _ _ _ s2; have m1 := cell_of_row _ _ 1 _ _ _ s2; have m2 := cell_of_row _ _ 2 _ _ _ s2; have f0 := frozen_of_row _ _ 0 _ 24 s2; have f1 := frozen_of_row _ _ 1 _ 24 s2; have f2 := frozen_of_row _ _ 2 _ 24 s2; have n0 := cell_of_row _ _ 0 _ _ _ s3; have n1 := cell_of_row _ _ 1 _ _ _ s3; have n2 := cell_of_row _ _ 2 _ _ _ s3; have g0 := frozen_of_row _ _ 0 _ 24 s3; have g1 := frozen_of_row _ _ 1 _ 24 s3; have g2 := frozen_of_row _ _ 2 _ 24 s3; clear K82)
            have HA : Hid (LsAt P w (d' + 1) (left.take i) (some ⟨g, off, none⟩) lc) := HL.out.take i
            have HAl : Hid (i = (left.take i).length) := by show i = _; rw [List.length_take]; omega
            have HBB := HB1
            clear HB1
            have h2l := two_laid (hVb.trans (hb3.mono hVb.size)) s1 s2 s3 x.kind x.n ax x.kids.length cx y.kind y.n ay y.kids.length cy
            generalize (((((w3.setCell ⟨w.heap.size + 1, 0, none⟩ (.int .i64 x.kind)).setCell ⟨w.heap.size + 1, 1, none⟩ (.int .i64 x.n)).setCell ⟨w.heap.size + 1, 2, none⟩ (.slice ax x.kids.length cx)).setCell ⟨w.heap.size + 1 + 1, 0, none⟩ (.int .i64 y.kind)).setCell ⟨w.heap.size + 1 + 1, 1, none⟩ (.int .i64 y.n)).setCell ⟨w.heap.size + 1 + 1, 2, none⟩ (.slice ay y.kids.length cy) = V2 at *
            obtain ⟨z1, z2, z3, hV2⟩ := h2l
            have HI : Hid (TyP P w (d' + 1) x ax cx) := tx.upto (by omega)
            have HW : Hid (TyP P w (d' + 1) y ay cy) := ty.upto (by omega)
            have HO : Hid (LsAt P w (d' + 1) ((left.drop i).take m) (some ⟨g, off + i * 3, none⟩) (lc - i)) := (HL.out.drop i).take m
            have HOl : Hid (m = ((left.drop i).take m).length) := by show m = _; rw [List.length_take, List.length_drop]; omega
            have K83 := around_any (P := P) (d := d' + 1) (left.take i) [] x (some ⟨g, off, none⟩) lc (some ⟨gb, ob, none⟩) 0 ax cx V2.drew (HA.out.below hV2.drew).1 (HI.out.below hV2.drew) (HBB.out.below hV2.drew).1 HLN.out (fun q hq => HPP.out q (Nat.le_trans hV2.size hq))
            unfold vty at K83
            rw [← HAl.out] at K83
            rw [show ([] : List Ty).length = 0 from rfl] at K83
            refine wp_region_held_drew (S := fun W => W.heap[w.heap.size]? = some (.cells #[.int .i64 5, .slice (some ⟨g, off, none⟩) left.length lc, .int .i64 goal.kind, .int .i64 goal.n, .slice ga goal.kids.length gc, .int .i64 i, .int .i64 m, .slice ka kids.length kc] 37 (0, 0)) ∧ W.heap[w.heap.size + 1]? = some (.cells #[.int .i64 x.kind, .int .i64 x.n, .slice ax x.kids.length cx] 24 (0, 0)) ∧ W.heap[w.heap.size + 2]? = some (.cells #[.int .i64 y.kind, .int .i64 y.n, .slice ay y.kids.length cy] 24 (0, 0))) (by kernel_rfl) (by exact ⟨z1, z2, z3⟩) (fun hHeld => ?_)
            refine wpAnyH_take (i := 0) (oi := { dst := some 138, op := Op.move (Operand.tmp 5), type := 22, pos := "steps.go:64", after := #[], guard := none }) (v := ?_) rfl (by kernel_rfl) (by kernel_rfl) (by kernel_rfl) (fun _ _ _ h => h) (Or.inl ⟨by rfl, ?_⟩) (by assumption) ?_
            case refine_2 => intro w hSw; (try dsimp only at hSw); obtain ⟨hA, hB, hC⟩ := hSw; have p2 := cell_of_row _ _ 2 _ _ _ hA; have p3 := cell_of_row _ _ 3 _ _ _ hA; have p4 := cell_of_row _ _ 4 _ _ _ hA; have q0 := cell_of_row _ _ 0 _ _ _ hB; have q1 := cell_of_row _ _ 1 _ _ _ hB; have q2 := cell_of_row _ _ 2 _ _ _ hB; have r0 := cell_of_row _ _ 0 _ _ _ hC; have r1 := cell_of_row _ _ 1 _ _ _ hC; have r2 := cell_of_row _ _ 2 _ _ _ hC; go_simp; (try with_reducible rfl)
            simp only [Act.put, List.setIfInBounds_toArray, List.set_cons_zero, List.set_cons_succ]
            refine wpAnyH_take (i := 1) (oi := { dst := some 139, op := Op.load 24 (Operand.tmp 8), type := 24, pos := "steps.go:64", after := #[], guard := none }) (v := ?_) rfl (by kernel_rfl) (by kernel_rfl) (by kernel_rfl) (fun _ _ _ h => h) (Or.inl ⟨by rfl, ?_⟩) (by assumption) ?_
            case refine_2 => intro w hSw; (try dsimp only at hSw); obtain ⟨hA, hB, hC⟩ := hSw; have p2 := cell_of_row _ _ 2 _ _ _ hA; have p3 := cell_of_row _ _ 3 _ _ _ hA; have p4 := cell_of_row _ _ 4 _ _ _ hA; have q0 := cell_of_row _ _ 0 _ _ _ hB; have q1 := cell_of_row _ _ 1 _ _ _ hB; have q2 := cell_of_row _ _ 2 _ _ _ hB; have r0 := cell_of_row _ _ 0 _ _ _ hC; have r1 := cell_of_row _ _ 1 _ _ _ hC; have r2 := cell_of_row _ _ 2 _ _ _ hC; go_simp; (try with_reducible rfl)
            simp only [Act.put, List.setIfInBounds_toArray, List.set_cons_zero, List.set_cons_succ]
            refine wpAnyH_take (i := 2) (oi := { dst := some 140, op := Op.build 79 #[(0, Operand.tmp 138), (1, Operand.tmp 139)], type := 79, pos := "steps.go:64", after := #[{ on := 0, ground := Ground.data }, { on := 1, ground := Ground.data }], guard := none }) (v := ?_) rfl (by kernel_rfl) (by kernel_rfl) (by kernel_rfl) (fun _ _ _ h => h) (Or.inl ⟨by rfl, ?_⟩) (by assumption) ?_
            case refine_2 => intro w hSw; (try dsimp only at hSw); obtain ⟨hA, hB, hC⟩ := hSw; have p2 := cell_of_row _ _ 2 _ _ _ hA; have p3 := cell_of_row _ _ 3 _ _ _ hA; have p4 := cell_of_row _ _ 4 _ _ _ hA; have q0 := cell_of_row _ _ 0 _ _ _ hB; have q1 := cell_of_row _ _ 1 _ _ _ hB; have q2 := cell_of_row _ _ 2 _ _ _ hB; have r0 := cell_of_row _ _ 0 _ _ _ hC; have r1 := cell_of_row _ _ 1 _ _ _ hC; have r2 := cell_of_row _ _ 2 _ _ _ hC; go_simp; (try with_reducible rfl)
            simp only [Act.put, List.setIfInBounds_toArray, List.set_cons_zero, List.set_cons_succ]
            refine wpAnyH_take (i := 3) (oi := { dst := some 141, op := Op.move (Operand.tmp 4), type := 22, pos := "steps.go:64", after := #[], guard := none }) (v := ?_) rfl (by kernel_rfl) (by kernel_rfl) (by kernel_rfl) (fun _ _ _ h => h) (Or.inl ⟨by rfl, ?_⟩) (by assumption) ?_
            case refine_2 => intro w hSw; (try dsimp only at hSw); obtain ⟨hA, hB, hC⟩ := hSw; have p2 := cell_of_row _ _ 2 _ _ _ hA; have p3 := cell_of_row _ _ 3 _ _ _ hA; have p4 := cell_of_row _ _ 4 _ _ _ hA; have q0 := cell_of_row _ _ 0 _ _ _ hB; have q1 := cell_of_row _ _ 1 _ _ _ hB; have q2 := cell_of_row _ _ 2 _ _ _ hB; have r0 := cell_of_row _ _ 0 _ _ _ hC; have r1 := cell_of_row _ _ 1 _ _ _ hC; have r2 := cell_of_row _ _ 2 _ _ _ hC; go_simp; (try with_reducible rfl)
            simp only [Act.put, List.setIfInBounds_toArray, List.set_cons_zero, List.set_cons_succ]
            refine wpAnyH_take (i := 4) (oi := { dst := some 142, op := Op.load 24 (Operand.tmp 7), type := 24, pos := "steps.go:64", after := #[], guard := none }) (v := ?_) rfl (by kernel_rfl) (by kernel_rfl) (by kernel_rfl) (fun _ _ _ h => h) (Or.inl ⟨by rfl, ?_⟩) (by assumption) ?_
            case refine_2 => intro w hSw; (try dsimp only at hSw); obtain ⟨hA, hB, hC⟩ := hSw; have p2 := cell_of_row _ _ 2 _ _ _ hA; have p3 := cell_of_row _ _ 3 _ _ _ hA; have p4 := cell_of_row _ _ 4 _ _ _ hA; have q0 := cell_of_row _ _ 0 _ _ _ hB; have q1 := cell_of_row _ _ 1 _ _ _ hB; have q2 := cell_of_row _ _ 2 _ _ _ hB; have r0 := cell_of_row _ _ 0 _ _ _ hC; have r1 := cell_of_row _ _ 1 _ _ _ hC; have r2 := cell_of_row _ _ 2 _ _ _ hC; go_simp; (try with_reducible rfl)
            simp only [Act.put, List.setIfInBounds_toArray, List.set_cons_zero, List.set_cons_succ]
            refine wpAnyH_take (i := 5) (oi := { dst := some 143, op := Op.move (Operand.tmp 6), type := 22, pos := "steps.go:64", after := #[], guard := none }) (v := ?_) rfl (by kernel_rfl) (by kernel_rfl) (by kernel_rfl) (fun _ _ _ h => h) (Or.inl ⟨by rfl, ?_⟩) (by assumption) ?_
            case refine_2 => intro w hSw; (try dsimp only at hSw); obtain ⟨hA, hB, hC⟩ := hSw; have p2 := cell_of_row _ _ 2 _ _ _ hA; have p3 := cell_of_row _ _ 3 _ _ _ hA; have p4 := cell_of_row _ _ 4 _ _ _ hA; have q0 := cell_of_row _ _ 0 _ _ _ hB; have q1 := cell_of_row _ _ 1 _ _ _ hB; have q2 := cell_of_row _ _ 2 _ _ _ hB; have r0 := cell_of_row _ _ 0 _ _ _ hC; have r1 := cell_of_row _ _ 1 _ _ _ hC; have r2 := cell_of_row _ _ 2 _ _ _ hC; go_simp; (try with_reducible rfl)
            simp only [Act.put, List.setIfInBounds_toArray, List.set_cons_zero, List.set_cons_succ]
            refine wpAnyH_take (i := 7) (oi := { dst := some 145, op := Op.fieldAddr 37 (Operand.tmp 1) 2, type := 0, pos := "steps.go:64", after := #[], guard := none }) (v := ?_) rfl (by kernel_rfl) (by kernel_rfl) (by kernel_rfl) (fun _ _ _ h => h) (Or.inl ⟨by rfl, ?_⟩) (by assumption) ?_
            case refine_2 => intro w hSw; (try dsimp only at hSw); obtain ⟨hA, hB, hC⟩ := hSw; have p2 := cell_of_row _ _ 2 _ _ _ hA; have p3 := cell_of_row _ _ 3 _ _ _ hA; have p4 := cell_of_row _ _ 4 _ _ _ hA; have q0 := cell_of_row _ _ 0 _ _ _ hB; have q1 := cell_of_row _ _ 1 _ _ _ hB; have q2 := cell_of_row _ _ 2 _ _ _ hB; have r0 := cell_of_row _ _ 0 _ _ _ hC; have r1 := cell_of_row _ _ 1 _ _ _ hC; have r2 := cell_of_row _ _ 2 _ _ _ hC; go_simp; (try with_reducible rfl)
            simp only [Act.put, List.setIfInBounds_toArray, List.set_cons_zero, List.set_cons_succ]
            refine wpAnyH_take (i := 8) (oi := { dst := some 146, op := Op.load 24 (Operand.tmp 145), type := 24, pos := "steps.go:64", after := #[{ on := 7, ground := Ground.data }], guard := none }) (v := ?_) rfl (by kernel_rfl) (by kernel_rfl) (by kernel_rfl) (fun _ _ _ h => h) (Or.inl ⟨by rfl, ?_⟩) (by assumption) ?_
            case refine_2 => intro w hSw; (try dsimp only at hSw); obtain ⟨hA, hB, hC⟩ := hSw; have p2 := cell_of_row _ _ 2 _ _ _ hA; have p3 := cell_of_row _ _ 3 _ _ _ hA; have p4 := cell_of_row _ _ 4 _ _ _ hA; have q0 := cell_of_row _ _ 0 _ _ _ hB; have q1 := cell_of_row _ _ 1 _ _ _ hB; have q2 := cell_of_row _ _ 2 _ _ _ hB; have r0 := cell_of_row _ _ 0 _ _ _ hC; have r1 := cell_of_row _ _ 1 _ _ _ hC; have r2 := cell_of_row _ _ 2 _ _ _ hC; go_simp; (try with_reducible rfl)
            simp only [Act.put, List.setIfInBounds_toArray, List.set_cons_zero, List.set_cons_succ]
            refine wpAnyH_ready (rs := [6]) (by kernel_rfl) (by simp) ?_
            refine (AllReadyH.cons (o := { dst := some 144, op := Op.call { callee := Callee.value (Operand.func 83), args := #[Operand.tmp 141, Operand.tmp 142, Operand.tmp 143], argTypes := #[22, 24, 22] }, type := 22, pos := "steps.go:64", after := #[{ on := 3, ground := Ground.data }, { on := 4, ground := Ground.data }, { on := 5, ground := Ground.data }], guard := none }) rfl (fun K hK => ?_) AllReadyH.nil)
            go_simp
            (with_reducible refine K83.mono ?_)
            rintro e5 w5 ⟨a5, c5, rfl, hT5, hb5⟩
            clear K83
            dsimp only
            have hb6 : Below V2.heap.size V2 w5 := (Below.refl _ V2).drew.trans hb5
            have hcc : w5.heap[w.heap.size]? = some (.cells #[.int .i64 5, .slice (some ⟨g, off, none⟩) left.length lc, .int .i64 goal.kind, .int .i64 goal.n, .slice ga goal.kids.length gc, .int .i64 i, .int .i64 m, .slice ka kids.length kc] 37 (0, 0)) ∧ w5.heap[w.heap.size + 1]? = some (.cells #[.int .i64 x.kind, .int .i64 x.n, .slice ax x.kids.length cx] 24 (0, 0)) ∧ w5.heap[w.heap.size + 2]? = some (.cells #[.int .i64 y.kind, .int .i64 y.n, .slice ay y.kids.length cy] 24 (0, 0)) := ⟨(hb6.block _ (lt_of_get z1)).trans z1, (hb6.block _ (lt_of_get z2)).trans z2, (hb6.block _ (lt_of_get z3)).trans z3⟩
            have hw5 := hV2.trans (hb6.mono hV2.size)
            refine hK.out _ _ ?_ (fun hHeld => ?_)
            · exact hcc
            clear hK K
            try simp only [Act.put, List.setIfInBounds_toArray, List.set_cons_zero, List.set_cons_succ]
            refine wpAnyH_take (i := 9) (oi := { dst := some 147, op := Op.build 79 #[(0, Operand.tmp 144), (1, Operand.tmp 146)], type := 79, pos := "steps.go:64", after := #[{ on := 6, ground := Ground.data }, { on := 8, ground := Ground.data }], guard := none }) (v := ?_) rfl (by kernel_rfl) (by kernel_rfl) (by kernel_rfl) (fun _ _ _ h => h) (Or.inl ⟨by rfl, ?_⟩) (by assumption) ?_
            case refine_2 => intro w hSw; (try dsimp only at hSw); obtain ⟨hA, hB, hC⟩ := hSw; have p2 := cell_of_row _ _ 2 _ _ _ hA; have p3 := cell_of_row _ _ 3 _ _ _ hA; have p4 := cell_of_row _ _ 4 _ _ _ hA; have q0 := cell_of_row _ _ 0 _ _ _ hB; have q1 := cell_of_row _ _ 1 _ _ _ hB; have q2 := cell_of_row _ _ 2 _ _ _ hB; have r0 := cell_of_row _ _ 0 _ _ _ hC; have r1 := cell_of_row _ _ 1 _ _ _ hC; have r2 := cell_of_row _ _ 2 _ _ _ hC; go_simp; (try with_reducible rfl)
            simp only [Act.put, List.setIfInBounds_toArray, List.set_cons_zero, List.set_cons_succ]
            refine wpAnyH_ready (rs := [10]) (by kernel_rfl) (by simp) ?_
            refine (AllReadyH.cons (o := { dst := some 148, op := Op.buildSlice 88 2 #[(0, Operand.tmp 140), (1, Operand.tmp 147)], type := 88, pos := "steps.go:64", after := #[{ on := 2, ground := Ground.data }, { on := 9, ground := Ground.data }], guard := none }) rfl (fun K hK => ?_) AllReadyH.nil)
            go_simp
            refine hK.out _ _ ?_ (fun hHeld => ?_)
            · exact ⟨(((Below.refl _ w5).alloc (Nat.le_refl _) _).block _ (lt_of_get hcc.1)).trans hcc.1, (((Below.refl _ w5).alloc (Nat.le_refl _) _).block _ (lt_of_get hcc.2.1)).trans hcc.2.1, (((Below.refl _ w5).alloc (Nat.le_refl _) _).block _ (lt_of_get hcc.2.2)).trans hcc.2.2⟩
            clear hK K
            try simp only [Act.put, List.setIfInBounds_toArray, List.set_cons_zero, List.set_cons_succ]
            refine wpAnyH_take (i := 11) (oi := { dst := some 2, op := Op.assign (Operand.tmp 148), type := 88, pos := "steps.go:64", after := #[{ on := 10, ground := Ground.data }, { on := 6, ground := Ground.chain }, { on := 0, ground := Ground.phase }, { on := 1, ground := Ground.phase }, { on := 2, ground := Ground.phase }, { on := 3, ground := Ground.phase }, { on := 4, ground := Ground.phase }, { on := 5, ground := Ground.phase }, { on := 6, ground := Ground.phase }, { on := 7, ground := Ground.phase }, { on := 8, ground := Ground.phase }, { on := 9, ground := Ground.phase }, { on := 10, ground := Ground.phase }], guard := none }) (v := ?_) rfl (by kernel_rfl) (by kernel_rfl) (by kernel_rfl) (fun _ _ _ h => h) (Or.inl ⟨by rfl, ?_⟩) (by assumption) ?_
            case refine_2 => intro w hSw; (try dsimp only at hSw); obtain ⟨hA, hB, hC⟩ := hSw; have p2 := cell_of_row _ _ 2 _ _ _ hA; have p3 := cell_of_row _ _ 3 _ _ _ hA; have p4 := cell_of_row _ _ 4 _ _ _ hA; have q0 := cell_of_row _ _ 0 _ _ _ hB; have q1 := cell_of_row _ _ 1 _ _ _ hB; have q2 := cell_of_row _ _ 2 _ _ _ hB; have r0 := cell_of_row _ _ 0 _ _ _ hC; have r1 := cell_of_row _ _ 1 _ _ _ hC; have r2 := cell_of_row _ _ 2 _ _ _ hC; go_simp; (try with_reducible rfl)
            simp only [Act.put, List.setIfInBounds_toArray, List.set_cons_zero, List.set_cons_succ]
            refine wpAnyH_take (i := 12) (oi := { dst := some 3, op := Op.assign (Operand.const (Value.bool true)), type := 4, pos := "steps.go:64", after := #[{ on := 11, ground := Ground.chain }, { on := 0, ground := Ground.phase }, { on := 1, ground := Ground.phase }, { on := 2, ground := Ground.phase }, { on := 3, ground := Ground.phase }, { on := 4, ground := Ground.phase }, { on := 5, ground := Ground.phase }, { on := 6, ground := Ground.phase }, { on := 7, ground := Ground.phase }, { on := 8, ground := Ground.phase }, { on := 9, ground := Ground.phase }, { on := 10, ground := Ground.phase }, { on := 11, ground := Ground.phase }], guard := none }) (v := ?_) rfl (by kernel_rfl) (by kernel_rfl) (by kernel_rfl) (fun _ _ _ h => h) (Or.inl ⟨by rfl, ?_⟩) (by assumption) ?_
            case refine_2 => intro w hSw; (try dsimp only at hSw); obtain ⟨hA, hB, hC⟩ := hSw; have p2 := cell_of_row _ _ 2 _ _ _ hA; have p3 := cell_of_row _ _ 3 _ _ _ hA; have p4 := cell_of_row _ _ 4 _ _ _ hA; have q0 := cell_of_row _ _ 0 _ _ _ hB; have q1 := cell_of_row _ _ 1 _ _ _ hB; have q2 := cell_of_row _ _ 2 _ _ _ hB; have r0 := cell_of_row _ _ 0 _ _ _ hC; have r1 := cell_of_row _ _ 1 _ _ _ hC; have r2 := cell_of_row _ _ 2 _ _ _ hC; go_simp; (try with_reducible rfl)
            simp only [Act.put, List.setIfInBounds_toArray, List.set_cons_zero, List.set_cons_succ]
            refine wpAnyH_done (by kernel_rfl) ?_ _
            go_wp2_with fail
            go_ret2
            exact befQ_two hw5 HBE.out (HO.out.below hw5) (HW.out.below hw5) hT5 (HG.out.below hw5) HOl.out (by simp only [List.length_append, List.length_take, List.length_cons, List.length_nil]; (try omega))
        · have HBE : Hid (bef2 ⟨5, left, goal, i, m, kids⟩ = none) := bef2_5n hn1 hn2 hBd hk2
          have s7 := cell_of_row _ _ 7 _ _ _ x1
          go_wp2
          go_ret2
          rw [HBE.out]
          exact befQ_none hVb
    · skip
      have s0 := cell_of_row _ _ 0 _ _ _ x1
      have s7 := cell_of_row _ _ 7 _ _ _ x1
      cases kids with
      | nil =>
        go_wp2
        go_ret2
        rw [bef2_60 hn1 hn2]
        exact befQ_none hVb
      | cons kd ks =>
        obtain ⟨kg, ko, rfl, hkg, _, hkk⟩ : ∃ g off, ka = some ⟨g, off, none⟩ ∧ g < w.heap.size ∧ P g ∧ ∀ j (h : j < (kd :: ks).length), ∃ y, C8 w g (off + j * 8) (kd :: ks)[j] y ∧ PfAt P w d e0 (kd :: ks)[j] y := by
          rcases HK.out with h | h
          · simp at h
          · exact h
        obtain ⟨kx, hc8, hkd⟩ := hkk 0 (by simp)
        obtain ⟨e1, rfl⟩ := hkd.pos
        have HI : Hid (TyP P w d kd.goal kx.ga kx.gc) := hkd.2.2.2.2.1
        have HW := HI
        simp only [List.getElem_cons_zero, Nat.zero_mul, Nat.add_zero] at hc8
        have y2 := (hVb.cell (p := ⟨kg, _, none⟩) hkg).trans hc8.c2
        have y3 := (hVb.cell (p := ⟨kg, _, none⟩) hkg).trans hc8.c3
        have y4 := (hVb.cell (p := ⟨kg, _, none⟩) hkg).trans hc8.c4
        have HBE : Hid (bef2 ⟨6, left, goal, i, m, kd :: ks⟩ = some [((left.drop i).take m, kd.goal), (left.take i ++ [kd.goal] ++ B, goal)]) := by
          have := bef2_6 (goal := goal) (k := kd) (ks := ks) hn1 hn2
          rw [hBd] at this
          exact this
        have HLN : Hid ((left.take i).length + B.length < 1000) := by
          have := congrArg List.length hBd
          rw [List.length_drop] at this
          show _ < _
          rw [List.length_take]
          omega
        have HA : Hid (LsAt P w d (left.take i) (some ⟨g, off, none⟩) lc) := HL.out.take i
        have HAl : Hid (i = (left.take i).length) := by show i = _; rw [List.length_take]; omega
        have HBB : Hid (LsAt P w d B bA bC) := hB
        clear hkk hkd hc8 hB
        go_upto_region 13 with fail
        refine wp_region_held_drew (S := fun W => W.heap[w.heap.size]? = some (.cells #[.int .i64 6, .slice (some ⟨g, off, none⟩) left.length lc, .int .i64 goal.kind, .int .i64 goal.n, .slice ga goal.kids.length gc, .int .i64 i, .int .i64 m, .slice (some ⟨kg, ko, none⟩) (kd :: ks).length kc] 37 (0, 0)) ∧ W.cell? ⟨kg, ko + 2, none⟩ = some (.int .i64 kd.goal.kind) ∧ W.cell? ⟨kg, ko + 3, none⟩ = some (.int .i64 kd.goal.n) ∧ W.cell? ⟨kg, ko + 4, none⟩ = some (.slice kx.ga kd.goal.kids.length kx.gc)) (by kernel_rfl) (by exact ⟨x1, y2, y3, y4⟩) (fun hHeld => ?_)
        have hc0 := hHeld
        have hb0 := hVb.drew
        have x2 : V.drew.heap[w.heap.size + 1]? = some (.cells #[.int .i64 0, .int .i64 0, .slice none 0 0] 24) := x2
        have x3 : V.drew.heap[w.heap.size + 2]? = some (.cells #[.int .i64 0, .int .i64 0, .slice none 0 0] 24) := x3
        generalize hV : V.drew = V0 at *
        clear hV
        refine wpAnyH_take (i := 0) (oi := { dst := some 128, op := Op.fieldAddr 37 (Operand.tmp 1) 5, type := 0, pos := "steps.go:60", after := #[], guard := none }) (v := ?_) rfl (by kernel_rfl) (by kernel_rfl) (by kernel_rfl) (fun _ _ _ h => h) (Or.inl ⟨by rfl, ?_⟩) (by assumption) ?_
        case refine_2 => intro w hSw; (try dsimp only at hSw); obtain ⟨hA, hB, hC, hD⟩ := hSw; have p7 := cell_of_row _ _ 7 _ _ _ hA; have p7 := p7; go_simp; (try with_reducible rfl)
        simp only [Act.put, List.setIfInBounds_toArray, List.set_cons_zero, List.set_cons_succ]
        refine wpAnyH_take (i := 1) (oi := { dst := some 129, op := Op.load 35 (Operand.tmp 128), type := 35, pos := "steps.go:60", after := #[{ on := 0, ground := Ground.data }], guard := none }) (v := ?_) rfl (by kernel_rfl) (by kernel_rfl) (by kernel_rfl) (fun _ _ _ h => h) (Or.inl ⟨by rfl, ?_⟩) (by assumption) ?_
        case refine_2 => intro w hSw; (try dsimp only at hSw); obtain ⟨hA, hB, hC, hD⟩ := hSw; have p7 := cell_of_row _ _ 7 _ _ _ hA; have p7 := p7; go_simp; (try with_reducible rfl)
        simp only [Act.put, List.setIfInBounds_toArray, List.set_cons_zero, List.set_cons_succ]
        refine wpAnyH_take (i := 2) (oi := { dst := some 130, op := Op.indexAddr 35 (Operand.tmp 129) (Operand.const (Value.int IntKind.i64 0)), type := 0, pos := "steps.go:60", after := #[{ on := 1, ground := Ground.data }], guard := none }) (v := ?_) rfl (by kernel_rfl) (by kernel_rfl) (by kernel_rfl) (fun _ _ _ h => h) (Or.inl ⟨by rfl, ?_⟩) (by assumption) ?_
        case refine_2 => intro w hSw; (try dsimp only at hSw); obtain ⟨hA, hB, hC, hD⟩ := hSw; have p7 := cell_of_row _ _ 7 _ _ _ hA; have p7 := p7; go_simp; (try with_reducible rfl)
        simp only [Act.put, List.setIfInBounds_toArray, List.set_cons_zero, List.set_cons_succ]
        refine wpAnyH_take (i := 3) (oi := { dst := some 131, op := Op.fieldAddr 37 (Operand.tmp 130) 2, type := 0, pos := "steps.go:60", after := #[{ on := 2, ground := Ground.data }], guard := none }) (v := ?_) rfl (by kernel_rfl) (by kernel_rfl) (by kernel_rfl) (fun _ _ _ h => h) (Or.inl ⟨by rfl, ?_⟩) (by assumption) ?_
        case refine_2 => intro w hSw; (try dsimp only at hSw); obtain ⟨hA, hB, hC, hD⟩ := hSw; have p7 := cell_of_row _ _ 7 _ _ _ hA; have p7 := p7; go_simp; (try with_reducible rfl)
        simp only [Act.put, List.setIfInBounds_toArray, List.set_cons_zero, List.set_cons_succ]
        refine wpAnyH_take (i := 4) (oi := { dst := some 132, op := Op.load 24 (Operand.tmp 131), type := 24, pos := "steps.go:60", after := #[{ on := 3, ground := Ground.data }], guard := none }) (v := ?_) rfl (by kernel_rfl) (by kernel_rfl) (by kernel_rfl) (fun _ _ _ h => h) (Or.inl ⟨by rfl, ?_⟩) (by assumption) ?_
        case refine_2 => intro w hSw; (try dsimp only at hSw); obtain ⟨hA, hB, hC, hD⟩ := hSw; have p7 := cell_of_row _ _ 7 _ _ _ hA; have p7 := p7; go_simp; (try with_reducible rfl)
        simp only [Act.put, List.setIfInBounds_toArray, List.set_cons_zero, List.set_cons_succ]
        refine wpAnyH_take (i := 5) (oi := { dst := some 133, op := Op.fieldAddr 37 (Operand.tmp 1) 5, type := 0, pos := "steps.go:60", after := #[{ on := 10, ground := Ground.gcOnly Departure.lateStores }], guard := none }) (v := ?_) rfl (by kernel_rfl) (by kernel_rfl) (by kernel_rfl) (fun _ _ _ h => h) (Or.inl ⟨by rfl, ?_⟩) (by assumption) ?_
        case refine_2 => intro w hSw; (try dsimp only at hSw); obtain ⟨hA, hB, hC, hD⟩ := hSw; have p7 := cell_of_row _ _ 7 _ _ _ hA; have p7 := p7; go_simp; (try with_reducible rfl)
        simp only [Act.put, List.setIfInBounds_toArray, List.set_cons_zero, List.set_cons_succ]
        refine wpAnyH_take (i := 6) (oi := { dst := some 134, op := Op.load 35 (Operand.tmp 133), type := 35, pos := "steps.go:60", after := #[{ on := 5, ground := Ground.data }, { on := 10, ground := Ground.gcOnly Departure.lateStores }], guard := none }) (v := ?_) rfl (by kernel_rfl) (by kernel_rfl) (by kernel_rfl) (fun _ _ _ h => h) (Or.inl ⟨by rfl, ?_⟩) (by assumption) ?_
        case refine_2 => intro w hSw; (try dsimp only at hSw); obtain ⟨hA, hB, hC, hD⟩ := hSw; have p7 := cell_of_row _ _ 7 _ _ _ hA; have p7 := p7; go_simp; (try with_reducible rfl)
        simp only [Act.put, List.setIfInBounds_toArray, List.set_cons_zero, List.set_cons_succ]
        refine wpAnyH_take (i := 7) (oi := { dst := some 135, op := Op.indexAddr 35 (Operand.tmp 134) (Operand.const (Value.int IntKind.i64 0)), type := 0, pos := "steps.go:60", after := #[{ on := 6, ground := Ground.data }, { on := 10, ground := Ground.gcOnly Departure.lateStores }], guard := none }) (v := ?_) rfl (by kernel_rfl) (by kernel_rfl) (by kernel_rfl) (fun _ _ _ h => h) (Or.inl ⟨by rfl, ?_⟩) (by assumption) ?_
        case refine_2 => intro w hSw; (try dsimp only at hSw); obtain ⟨hA, hB, hC, hD⟩ := hSw; have p7 := cell_of_row _ _ 7 _ _ _ hA; have p7 := p7; go_simp; (try with_reducible rfl)
        simp only [Act.put, List.setIfInBounds_toArray, List.set_cons_zero, List.set_cons_succ]
        refine wpAnyH_take (i := 8) (oi := { dst := some 136, op := Op.fieldAddr 37 (Operand.tmp 135) 2, type := 0, pos := "steps.go:60", after := #[{ on := 7, ground := Ground.data }, { on := 10, ground := Ground.gcOnly Departure.lateStores }], guard := none }) (v := ?_) rfl (by kernel_rfl) (by kernel_rfl) (by kernel_rfl) (fun _ _ _ h => h) (Or.inl ⟨by rfl, ?_⟩) (by assumption) ?_
        case refine_2 => intro w hSw; (try dsimp only at hSw); obtain ⟨hA, hB, hC, hD⟩ := hSw; have p7 := cell_of_row _ _ 7 _ _ _ hA; have p7 := p7; go_simp; (try with_reducible rfl)
        simp only [Act.put, List.setIfInBounds_toArray, List.set_cons_zero, List.set_cons_succ]
        refine wpAnyH_take (i := 9) (oi := { dst := some 137, op := Op.load 24 (Operand.tmp 136), type := 24, pos := "steps.go:60", after := #[{ on := 8, ground := Ground.data }, { on := 10, ground := Ground.gcOnly Departure.lateStores }], guard := none }) (v := ?_) rfl (by kernel_rfl) (by kernel_rfl) (by kernel_rfl) (fun _ _ _ h => h) (Or.inl ⟨by rfl, ?_⟩) (by assumption) ?_
        case refine_2 => intro w hSw; (try dsimp only at hSw); obtain ⟨hA, hB, hC, hD⟩ := hSw; have p7 := cell_of_row _ _ 7 _ _ _ hA; have p7 := p7; go_simp; (try with_reducible rfl)
        simp only [Act.put, List.setIfInBounds_toArray, List.set_cons_zero, List.set_cons_succ]
        refine wpAnyH_ready (rs := [10]) (by kernel_rfl) (by simp) ?_
        refine (AllReadyH.cons (o := { dst := none, op := Op.store 24 (Operand.tmp 7) (Operand.tmp 132), type := 0, pos := "steps.go:60", after := #[{ on := 4, ground := Ground.data }, { on := 0, ground := Ground.phase }, { on := 1, ground := Ground.phase }, { on := 2, ground := Ground.phase }, { on := 3, ground := Ground.phase }, { on := 4, ground := Ground.phase }, { on := 5, ground := Ground.textOnly Departure.lateStores }, { on := 6, ground := Ground.textOnly Departure.lateStores }, { on := 7, ground := Ground.textOnly Departure.lateStores }, { on := 8, ground := Ground.textOnly Departure.lateStores }, { on := 9, ground := Ground.textOnly Departure.lateStores }], guard := none }) rfl (fun K hK => ?_) AllReadyH.nil)
        have m0 := cell_of_row _ _ 0 _ _ _ x2
        have f0 := frozen_of_row _ _ 0 _ 24 x2
        have m1 := cell_of_row _ _ 1 _ _ _ x2
        have f1 := frozen_of_row _ _ 1 _ 24 x2
        have m2 := cell_of_row _ _ 2 _ _ _ x2
        have f2 := frozen_of_row _ _ 2 _ 24 x2
        go_simp
        have k10 := ko3 V0 (w.heap.size + 1) (.int .i64 kd.goal.kind) (.int .i64 kd.goal.n) (.slice kx.ga kd.goal.kids.length kx.gc)
        have hl10 := laid_box x2 kd.goal.kind kd.goal.n kx.ga kd.goal.kids.length kx.gc
        have hc10 := six_keep hc0 k10 (by omega) (by omega)
        have hb10 := ((hb0.setCell (p := ⟨w.heap.size + 1, 0, none⟩) (by show w.heap.size ≤ w.heap.size + 1; omega) (.int .i64 kd.goal.kind)).setCell (p := ⟨w.heap.size + 1, 1, none⟩) (by show w.heap.size ≤ w.heap.size + 1; omega) (.int .i64 kd.goal.n)).setCell (p := ⟨w.heap.size + 1, 2, none⟩) (by show w.heap.size ≤ w.heap.size + 1; omega) (.slice kx.ga kd.goal.kids.length kx.gc)
        have y3 := (k10 (w.heap.size + 2) (by omega)).trans x3
        refine hK.out _ _ ?_ (fun hHeld => ?_)
        · exact hc10
        clear hK K
        try simp only [Act.put, List.setIfInBounds_toArray, List.set_cons_zero, List.set_cons_succ]
        clear m0 m1 m2 f0 f1 f2
        generalize hV : ((V0.setCell ⟨w.heap.size + 1, 0, none⟩ (.int .i64 kd.goal.kind)).setCell ⟨w.heap.size + 1, 1, none⟩ (.int .i64 kd.goal.n)).setCell ⟨w.heap.size + 1, 2, none⟩ (.slice kx.ga kd.goal.kids.length kx.gc) = V1 at *
        clear hV
        refine wpAnyH_ready (rs := [11]) (by kernel_rfl) (by simp) ?_
        refine (AllReadyH.cons (o := { dst := none, op := Op.store 24 (Operand.tmp 8) (Operand.tmp 137), type := 0, pos := "steps.go:60", after := #[{ on := 9, ground := Ground.data }, { on := 10, ground := Ground.chain }, { on := 0, ground := Ground.phase }, { on := 1, ground := Ground.phase }, { on := 2, ground := Ground.phase }, { on := 3, ground := Ground.phase }, { on := 4, ground := Ground.phase }, { on := 5, ground := Ground.phase }, { on := 6, ground := Ground.phase }, { on := 7, ground := Ground.phase }, { on := 8, ground := Ground.phase }, { on := 9, ground := Ground.phase }, { on := 10, ground := Ground.phase }], guard := none }) rfl (fun K hK => ?_) AllReadyH.nil)
        have m0 := cell_of_row _ _ 0 _ _ _ y3
        have f0 := frozen_of_row _ _ 0 _ 24 y3
        have m1 := cell_of_row _ _ 1 _ _ _ y3
        have f1 := frozen_of_row _ _ 1 _ 24 y3
        have m2 := cell_of_row _ _ 2 _ _ _ y3
        have f2 := frozen_of_row _ _ 2 _ 24 y3
        go_simp
        have k11 := ko3 V1 (w.heap.size + 1 + 1) (.int .i64 kd.goal.kind) (.int .i64 kd.goal.n) (.slice kx.ga kd.goal.kids.length kx.gc)
        have hl11 := laid_box y3 kd.goal.kind kd.goal.n kx.ga kd.goal.kids.length kx.gc
        have hc11 := six_keep hc10 k11 (by omega) (by omega)
        have hb11 := ((hb10.setCell (p := ⟨w.heap.size + 1 + 1, 0, none⟩) (by show w.heap.size ≤ w.heap.size + 1 + 1; omega) (.int .i64 kd.goal.kind)).setCell (p := ⟨w.heap.size + 1 + 1, 1, none⟩) (by show w.heap.size ≤ w.heap.size + 1 + 1; omega) (.int .i64 kd.goal.n)).setCell (p := ⟨w.heap.size + 1 + 1, 2, none⟩) (by show w.heap.size ≤ w.heap.size + 1 + 1; omega) (.slice kx.ga kd.goal.kids.length kx.gc)
        have z2 := (k11 (w.heap.size + 1) (by omega)).trans hl10
        refine hK.out _ _ ?_ (fun hHeld => ?_)
        · exact hc11
        clear hK K
        try simp only [Act.put, List.setIfInBounds_toArray, List.set_cons_zero, List.set_cons_succ]
        clear m0 m1 m2 f0 f1 f2
        generalize hV : ((V1.setCell ⟨w.heap.size + 1 + 1, 0, none⟩ (.int .i64 kd.goal.kind)).setCell ⟨w.heap.size + 1 + 1, 1, none⟩ (.int .i64 kd.goal.n)).setCell ⟨w.heap.size + 1 + 1, 2, none⟩ (.slice kx.ga kd.goal.kids.length kx.gc) = V2 at *
        clear hV
        refine wpAnyH_done (by kernel_rfl) ?_ _
        go_upto_region 14 with fail
        have z3 : V2.heap[w.heap.size + 2]? = some (.cells #[.int .i64 kd.goal.kind, .int .i64 kd.goal.n, .slice kx.ga kd.goal.kids.length kx.gc] 24 (0, 0)) := hl11
        have z1 := hc11.1
        have hV2 := hb11
        have HO : Hid (LsAt P w d ((left.drop i).take m) (some ⟨g, off + i * 3, none⟩) (lc - i)) := (HL.out.drop i).take m
        have HOl : Hid (m = ((left.drop i).take m).length) := by show m = _; rw [List.length_take, List.length_drop]; omega
        have K83 := around_any (P := P) (d := d) (left.take i) B kd.goal (some ⟨g, off, none⟩) lc bA bC kx.ga kx.gc V2.drew (HA.out.below hV2.drew).1 (HI.out.below hV2.drew) (HBB.out.below hV2.drew).1 HLN.out (fun q hq => HPP.out q (Nat.le_trans hV2.size hq))
        unfold vty at K83
        rw [← HAl.out] at K83
        refine wp_region_held_drew (S := fun W => W.heap[w.heap.size]? = some (.cells #[.int .i64 6, .slice (some ⟨g, off, none⟩) left.length lc, .int .i64 goal.kind, .int .i64 goal.n, .slice ga goal.kids.length gc, .int .i64 i, .int .i64 m, .slice (some ⟨kg, ko, none⟩) (kd :: ks).length kc] 37 (0, 0)) ∧ W.heap[w.heap.size + 1]? = some (.cells #[.int .i64 kd.goal.kind, .int .i64 kd.goal.n, .slice kx.ga kd.goal.kids.length kx.gc] 24 (0, 0)) ∧ W.heap[w.heap.size + 2]? = some (.cells #[.int .i64 kd.goal.kind, .int .i64 kd.goal.n, .slice kx.ga kd.goal.kids.length kx.gc] 24 (0, 0))) (by kernel_rfl) (by exact ⟨z1, z2, z3⟩) (fun hHeld => ?_)
        refine wpAnyH_take (i := 0) (oi := { dst := some 138, op := Op.move (Operand.tmp 5), type := 22, pos := "steps.go:64", after := #[], guard := none }) (v := ?_) rfl (by kernel_rfl) (by kernel_rfl) (by kernel_rfl) (fun _ _ _ h => h) (Or.inl ⟨by rfl, ?_⟩) (by assumption) ?_
        case refine_2 => intro w hSw; (try dsimp only at hSw); obtain ⟨hA, hB, hC⟩ := hSw; have p2 := cell_of_row _ _ 2 _ _ _ hA; have p3 := cell_of_row _ _ 3 _ _ _ hA; have p4 := cell_of_row _ _ 4 _ _ _ hA; have q0 := cell_of_row _ _ 0 _ _ _ hB; have q1 := cell_of_row _ _ 1 _ _ _ hB; have q2 := cell_of_row _ _ 2 _ _ _ hB; have r0 := cell_of_row _ _ 0 _ _ _ hC; have r1 := cell_of_row _ _ 1 _ _ _ hC; have r2 := cell_of_row _ _ 2 _ _ _ hC; go_simp; (try with_reducible rfl)
        simp only [Act.put, List.setIfInBounds_toArray, List.set_cons_zero, List.set_cons_succ]
        refine wpAnyH_take (i := 1) (oi := { dst := some 139, op := Op.load 24 (Operand.tmp 8), type := 24, pos := "steps.go:64", after := #[], guard := none }) (v := ?_) rfl (by kernel_rfl) (by kernel_rfl) (by kernel_rfl) (fun _ _ _ h => h) (Or.inl ⟨by rfl, ?_⟩) (by assumption) ?_
        case refine_2 => intro w hSw; (try dsimp only at hSw); obtain ⟨hA, hB, hC⟩ := hSw; have p2 := cell_of_row _ _ 2 _ _ _ hA; have p3 := cell_of_row _ _ 3 _ _ _ hA; have p4 := cell_of_row _ _ 4 _ _ _ hA; have q0 := cell_of_row _ _ 0 _ _ _ hB; have q1 := cell_of_row _ _ 1 _ _ _ hB; have q2 := cell_of_row _ _ 2 _ _ _ hB; have r0 := cell_of_row _ _ 0 _ _ _ hC; have r1 := cell_of_row _ _ 1 _ _ _ hC; have r2 := cell_of_row _ _ 2 _ _ _ hC; go_simp; (try with_reducible rfl)
        simp only [Act.put, List.setIfInBounds_toArray, List.set_cons_zero, List.set_cons_succ]
        refine wpAnyH_take (i := 2) (oi := { dst := some 140, op := Op.build 79 #[(0, Operand.tmp 138), (1, Operand.tmp 139)], type := 79, pos := "steps.go:64", after := #[{ on := 0, ground := Ground.data }, { on := 1, ground := Ground.data }], guard := none }) (v := ?_) rfl (by kernel_rfl) (by kernel_rfl) (by kernel_rfl) (fun _ _ _ h => h) (Or.inl ⟨by rfl, ?_⟩) (by assumption) ?_
        case refine_2 => intro w hSw; (try dsimp only at hSw); obtain ⟨hA, hB, hC⟩ := hSw; have p2 := cell_of_row _ _ 2 _ _ _ hA; have p3 := cell_of_row _ _ 3 _ _ _ hA; have p4 := cell_of_row _ _ 4 _ _ _ hA; have q0 := cell_of_row _ _ 0 _ _ _ hB; have q1 := cell_of_row _ _ 1 _ _ _ hB; have q2 := cell_of_row _ _ 2 _ _ _ hB; have r0 := cell_of_row _ _ 0 _ _ _ hC; have r1 := cell_of_row _ _ 1 _ _ _ hC; have r2 := cell_of_row _ _ 2 _ _ _ hC; go_simp; (try with_reducible rfl)
        simp only [Act.put, List.setIfInBounds_toArray, List.set_cons_zero, List.set_cons_succ]
        refine wpAnyH_take (i := 3) (oi := { dst := some 141, op := Op.move (Operand.tmp 4), type := 22, pos := "steps.go:64", after := #[], guard := none }) (v := ?_) rfl (by kernel_rfl) (by kernel_rfl) (by kernel_rfl) (fun _ _ _ h => h) (Or.inl ⟨by rfl, ?_⟩) (by assumption) ?_
        case refine_2 => intro w hSw; (try dsimp only at hSw); obtain ⟨hA, hB, hC⟩ := hSw; have p2 := cell_of_row _ _ 2 _ _ _ hA; have p3 := cell_of_row _ _ 3 _ _ _ hA; have p4 := cell_of_row _ _ 4 _ _ _ hA; have q0 := cell_of_row _ _ 0 _ _ _ hB; have q1 := cell_of_row _ _ 1 _ _ _ hB; have q2 := cell_of_row _ _ 2 _ _ _ hB; have r0 := cell_of_row _ _ 0 _ _ _ hC; have r1 := cell_of_row _ _ 1 _ _ _ hC; have r2 := cell_of_row _ _ 2 _ _ _ hC; go_simp; (try with_reducible rfl)
        simp only [Act.put, List.setIfInBounds_toArray, List.set_cons_zero, List.set_cons_succ]
        refine wpAnyH_take (i := 4) (oi := { dst := some 142, op := Op.load 24 (Operand.tmp 7), type := 24, pos := "steps.go:64", after := #[], guard := none }) (v := ?_) rfl (by kernel_rfl) (by kernel_rfl) (by kernel_rfl) (fun _ _ _ h => h) (Or.inl ⟨by rfl, ?_⟩) (by assumption) ?_
        case refine_2 => intro w hSw; (try dsimp only at hSw); obtain ⟨hA, hB, hC⟩ := hSw; have p2 := cell_of_row _ _ 2 _ _ _ hA; have p3 := cell_of_row _ _ 3 _ _ _ hA; have p4 := cell_of_row _ _ 4 _ _ _ hA; have q0 := cell_of_row _ _ 0 _ _ _ hB; have q1 := cell_of_row _ _ 1 _ _ _ hB; have q2 := cell_of_row _ _ 2 _ _ _ hB; have r0 := cell_of_row _ _ 0 _ _ _ hC; have r1 := cell_of_row _ _ 1 _ _ _ hC; have r2 := cell_of_row _ _ 2 _ _ _ hC; go_simp; (try with_reducible rfl)
        simp only [Act.put, List.setIfInBounds_toArray, List.set_cons_zero, List.set_cons_succ]
        refine wpAnyH_take (i := 5) (oi := { dst := some 143, op := Op.move (Operand.tmp 6), type := 22, pos := "steps.go:64", after := #[], guard := none }) (v := ?_) rfl (by kernel_rfl) (by kernel_rfl) (by kernel_rfl) (fun _ _ _ h => h) (Or.inl ⟨by rfl, ?_⟩) (by assumption) ?_
        case refine_2 => intro w hSw; (try dsimp only at hSw); obtain ⟨hA, hB, hC⟩ := hSw; have p2 := cell_of_row _ _ 2 _ _ _ hA; have p3 := cell_of_row _ _ 3 _ _ _ hA; have p4 := cell_of_row _ _ 4 _ _ _ hA; have q0 := cell_of_row _ _ 0 _ _ _ hB; have q1 := cell_of_row _ _ 1 _ _ _ hB; have q2 := cell_of_row _ _ 2 _ _ _ hB; have r0 := cell_of_row _ _ 0 _ _ _ hC; have r1 := cell_of_row _ _ 1 _ _ _ hC; have r2 := cell_of_row _ _ 2 _ _ _ hC; go_simp; (try with_reducible rfl)
        simp only [Act.put, List.setIfInBounds_toArray, List.set_cons_zero, List.set_cons_succ]
        refine wpAnyH_take (i := 7) (oi := { dst := some 145, op := Op.fieldAddr 37 (Operand.tmp 1) 2, type := 0, pos := "steps.go:64", after := #[], guard := none }) (v := ?_) rfl (by kernel_rfl) (by kernel_rfl) (by kernel_rfl) (fun _ _ _ h => h) (Or.inl ⟨by rfl, ?_⟩) (by assumption) ?_
        case refine_2 => intro w hSw; (try dsimp only at hSw); obtain ⟨hA, hB, hC⟩ := hSw; have p2 := cell_of_row _ _ 2 _ _ _ hA; have p3 := cell_of_row _ _ 3 _ _ _ hA; have p4 := cell_of_row _ _ 4 _ _ _ hA; have q0 := cell_of_row _ _ 0 _ _ _ hB; have q1 := cell_of_row _ _ 1 _ _ _ hB; have q2 := cell_of_row _ _ 2 _ _ _ hB; have r0 := cell_of_row _ _ 0 _ _ _ hC; have r1 := cell_of_row _ _ 1 _ _ _ hC; have r2 := cell_of_row _ _ 2 _ _ _ hC; go_simp; (try with_reducible rfl)
        simp only [Act.put, List.setIfInBounds_toArray, List.set_cons_zero, List.set_cons_succ]
        refine wpAnyH_take (i := 8) (oi := { dst := some 146, op := Op.load 24 (Operand.tmp 145), type := 24, pos := "steps.go:64", after := #[{ on := 7, ground := Ground.data }], guard := none }) (v := ?_) rfl (by kernel_rfl) (by kernel_rfl) (by kernel_rfl) (fun _ _ _ h => h) (Or.inl ⟨by rfl, ?_⟩) (by assumption) ?_
        case refine_2 => intro w hSw; (try dsimp only at hSw); obtain ⟨hA, hB, hC⟩ := hSw; have p2 := cell_of_row _ _ 2 _ _ _ hA; have p3 := cell_of_row _ _ 3 _ _ _ hA; have p4 := cell_of_row _ _ 4 _ _ _ hA; have q0 := cell_of_row _ _ 0 _ _ _ hB; have q1 := cell_of_row _ _ 1 _ _ _ hB; have q2 := cell_of_row _ _ 2 _ _ _ hB; have r0 := cell_of_row _ _ 0 _ _ _ hC; have r1 := cell_of_row _ _ 1 _ _ _ hC; have r2 := cell_of_row _ _ 2 _ _ _ hC; go_simp; (try with_reducible rfl)
        simp only [Act.put, List.setIfInBounds_toArray, List.set_cons_zero, List.set_cons_succ]
        refine wpAnyH_ready (rs := [6]) (by kernel_rfl) (by simp) ?_
        refine (AllReadyH.cons (o := { dst := some 144, op := Op.call { callee := Callee.value (Operand.func 83), args := #[Operand.tmp 141, Operand.tmp 142, Operand.tmp 143], argTypes := #[22, 24, 22] }, type := 22, pos := "steps.go:64", after := #[{ on := 3, ground := Ground.data }, { on := 4, ground := Ground.data }, { on := 5, ground := Ground.data }], guard := none }) rfl (fun K hK => ?_) AllReadyH.nil)
        go_simp
        (with_reducible refine K83.mono ?_)
        rintro e5 w5 ⟨a5, c5, rfl, hT5, hb5⟩
        clear K83
        dsimp only
        have hb6 : Below V2.heap.size V2 w5 := (Below.refl _ V2).drew.trans hb5
        have hcc : w5.heap[w.heap.size]? = some (.cells #[.int .i64 6, .slice (some ⟨g, off, none⟩) left.length lc, .int .i64 goal.kind, .int .i64 goal.n, .slice ga goal.kids.length gc, .int .i64 i, .int .i64 m, .slice (some ⟨kg, ko, none⟩) (kd :: ks).length kc] 37 (0, 0)) ∧ w5.heap[w.heap.size + 1]? = some (.cells #[.int .i64 kd.goal.kind, .int .i64 kd.goal.n, .slice kx.ga kd.goal.kids.length kx.gc] 24 (0, 0)) ∧ w5.heap[w.heap.size + 2]? = some (.cells #[.int .i64 kd.goal.kind, .int .i64 kd.goal.n, .slice kx.ga kd.goal.kids.length kx.gc] 24 (0, 0)) := ⟨(hb6.block _ (lt_of_get z1)).trans z1, (hb6.block _ (lt_of_get z2)).trans z2, (hb6.block _ (lt_of_get z3)).trans z3⟩
        have hw5 := hV2.trans (hb6.mono hV2.size)
        refine hK.out _ _ ?_ (fun hHeld => ?_)
        · exact hcc
        clear hK K
        try simp only [Act.put, List.setIfInBounds_toArray, List.set_cons_zero, List.set_cons_succ]
        refine wpAnyH_take (i := 9) (oi := { dst := some 147, op := Op.build 79 #[(0, Operand.tmp 144), (1, Operand.tmp 146)], type := 79, pos := "steps.go:64", after := #[{ on := 6, ground := Ground.data }, { on := 8, ground := Ground.data }], guard := none }) (v := ?_) rfl (by kernel_rfl) (by kernel_rfl) (by kernel_rfl) (fun _ _ _ h => h) (Or.inl ⟨by rfl, ?_⟩) (by assumption) ?_
        case refine_2 => intro w hSw; (try dsimp only at hSw); obtain ⟨hA, hB, hC⟩ := hSw; have p2 := cell_of_row _ _ 2 _ _ _ hA; have p3 := cell_of_row _ _ 3 _ _ _ hA; have p4 := cell_of_row _ _ 4 _ _ _ hA; have q0 := cell_of_row _ _ 0 _ _ _ hB; have q1 := cell_of_row _ _ 1 _ _ _ hB; have q2 := cell_of_row _ _ 2 _ _ _ hB; have r0 := cell_of_row _ _ 0 _ _ _ hC; have r1 := cell_of_row _ _ 1 _ _ _ hC; have r2 := cell_of_row _ _ 2 _ _ _ hC; go_simp; (try with_reducible rfl)
        simp only [Act.put, List.setIfInBounds_toArray, List.set_cons_zero, List.set_cons_succ]
        refine wpAnyH_ready (rs := [10]) (by kernel_rfl) (by simp) ?_
        refine (AllReadyH.cons (o := { dst := some 148, op := Op.buildSlice 88 2 #[(0, Operand.tmp 140), (1, Operand.tmp 147)], type := 88, pos := "steps.go:64", after := #[{ on := 2, ground := Ground.data }, { on := 9, ground := Ground.data }], guard := none }) rfl (fun K hK => ?_) AllReadyH.nil)
        go_simp
        refine hK.out _ _ ?_ (fun hHeld => ?_)
        · exact ⟨(((Below.refl _ w5).alloc (Nat.le_refl _) _).block _ (lt_of_get hcc.1)).trans hcc.1, (((Below.refl _ w5).alloc (Nat.le_refl _) _).block _ (lt_of_get hcc.2.1)).trans hcc.2.1, (((Below.refl _ w5).alloc (Nat.le_refl _) _).block _ (lt_of_get hcc.2.2)).trans hcc.2.2⟩
        clear hK K
        try simp only [Act.put, List.setIfInBounds_toArray, List.set_cons_zero, List.set_cons_succ]
        refine wpAnyH_take (i := 11) (oi := { dst := some 2, op := Op.assign (Operand.tmp 148), type := 88, pos := "steps.go:64", after := #[{ on := 10, ground := Ground.data }, { on := 6, ground := Ground.chain }, { on := 0, ground := Ground.phase }, { on := 1, ground := Ground.phase }, { on := 2, ground := Ground.phase }, { on := 3, ground := Ground.phase }, { on := 4, ground := Ground.phase }, { on := 5, ground := Ground.phase }, { on := 6, ground := Ground.phase }, { on := 7, ground := Ground.phase }, { on := 8, ground := Ground.phase }, { on := 9, ground := Ground.phase }, { on := 10, ground := Ground.phase }], guard := none }) (v := ?_) rfl (by kernel_rfl) (by kernel_rfl) (by kernel_rfl) (fun _ _ _ h => h) (Or.inl ⟨by rfl, ?_⟩) (by assumption) ?_
        case refine_2 => intro w hSw; (try dsimp only at hSw); obtain ⟨hA, hB, hC⟩ := hSw; have p2 := cell_of_row _ _ 2 _ _ _ hA; have p3 := cell_of_row _ _ 3 _ _ _ hA; have p4 := cell_of_row _ _ 4 _ _ _ hA; have q0 := cell_of_row _ _ 0 _ _ _ hB; have q1 := cell_of_row _ _ 1 _ _ _ hB; have q2 := cell_of_row _ _ 2 _ _ _ hB; have r0 := cell_of_row _ _ 0 _ _ _ hC; have r1 := cell_of_row _ _ 1 _ _ _ hC; have r2 := cell_of_row _ _ 2 _ _ _ hC; go_simp; (try with_reducible rfl)
        simp only [Act.put, List.setIfInBounds_toArray, List.set_cons_zero, List.set_cons_succ]
        refine wpAnyH_take (i := 12) (oi := { dst := some 3, op := Op.assign (Operand.const (Value.bool true)), type := 4, pos := "steps.go:64", after := #[{ on := 11, ground := Ground.chain }, { on := 0, ground := Ground.phase }, { on := 1, ground := Ground.phase }, { on := 2, ground := Ground.phase }, { on := 3, ground := Ground.phase }, { on := 4, ground := Ground.phase }, { on := 5, ground := Ground.phase }, { on := 6, ground := Ground.phase }, { on := 7, ground := Ground.phase }, { on := 8, ground := Ground.phase }, { on := 9, ground := Ground.phase }, { on := 10, ground := Ground.phase }, { on := 11, ground := Ground.phase }], guard := none }) (v := ?_) rfl (by kernel_rfl) (by kernel_rfl) (by kernel_rfl) (fun _ _ _ h => h) (Or.inl ⟨by rfl, ?_⟩) (by assumption) ?_
        case refine_2 => intro w hSw; (try dsimp only at hSw); obtain ⟨hA, hB, hC⟩ := hSw; have p2 := cell_of_row _ _ 2 _ _ _ hA; have p3 := cell_of_row _ _ 3 _ _ _ hA; have p4 := cell_of_row _ _ 4 _ _ _ hA; have q0 := cell_of_row _ _ 0 _ _ _ hB; have q1 := cell_of_row _ _ 1 _ _ _ hB; have q2 := cell_of_row _ _ 2 _ _ _ hB; have r0 := cell_of_row _ _ 0 _ _ _ hC; have r1 := cell_of_row _ _ 1 _ _ _ hC; have r2 := cell_of_row _ _ 2 _ _ _ hC; go_simp; (try with_reducible rfl)
        simp only [Act.put, List.setIfInBounds_toArray, List.set_cons_zero, List.set_cons_succ]
        refine wpAnyH_done (by kernel_rfl) ?_ _
        go_wp2_with fail
        go_ret2
        exact befQ_two hw5 HBE.out (HO.out.below hw5) (HW.out.below hw5) hT5 (HG.out.below hw5) HOl.out (by simp only [List.length_append, List.length_take, List.length_cons, List.length_nil]; (try omega))
end Go.Proofs.Ytbmgkgoghgdbhaa.Te
