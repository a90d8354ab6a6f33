/- For the document's RightProof: joins of two and three lists, says, and which proofs are right, step by step (PLAIN). No conditions. -/
import Derived.Test.YtbmgkgoghgdbhaaRm
import Derived.Test.YtbmgkgoghgdbhaaRi
namespace Go.Proofs.Ytbmgkgoghgdbhaa.Te
open Go.RowKit

theorem TyAt.more {w : World} {d e : Nat} {t : Ty} {a : Option Addr} {c : Nat} (h : TyAt w d t a c) (hd : d ≤ e) : TyAt w e t a c := (h.within.upto hd).at
theorem TyAt.free {w : World} {d : Nat} {t : Ty} {a : Option Addr} {c : Nat} (h : TyAt w d t a c) : TyP (fun _ => True) w d t a c := h.within.keep (Nat.le_refl _) (fun _ _ _ => ⟨trivial, rfl⟩)
theorem ty_one {w : World} {d g : Nat} {x : Ty} {ax : Option Addr} {cx : Nat} (hx : TyAt w d x ax cx) (hh : w.heap[g]? = some (.cells #[.int .i64 x.kind, .int .i64 x.n, .slice ax x.kids.length cx] 24 (0, 0))) (c : Nat) : TyAt w (d + 1) ⟨0, 0, [x]⟩ (some ⟨g, 0, none⟩) c := by
  refine ⟨(by show i64B 0; constructor <;> decide), (by show i64B 0; constructor <;> decide), by simp, .inr ⟨g, 0, rfl, lt_of_get hh, fun j hj => ?_⟩⟩
  have hj2 : j = 0 := by simp at hj; omega
  subst hj2
  exact ⟨ax, cx, cell_of_row _ _ 0 _ _ _ hh, cell_of_row _ _ 1 _ _ _ hh, cell_of_row _ _ 2 _ _ _ hh, hx⟩
theorem join2 {d d2 : Nat} (B : Nat) (l m fl : List Ty) (hfl : l ++ m = fl) {a : Option Addr} {c : Nat} {a2 : Option Addr} {c2 : Nat} (w : World) (hh : w.heap[B]? = some (.cells #[.slice a l.length c, .slice a2 m.length c2] 22 (0, 0))) (hl : TyAt w (d + 1) ⟨0, 0, l⟩ a c) (hm : TyAt w (d2 + 1) ⟨0, 0, m⟩ a2 c2) (hs : l.length + m.length ≤ 1000) :
    Calls Try.prog 52 #[.slice (some ⟨B, 0, none⟩) 2 2] w fun e w' => ∃ a c, e = .returned (.slice a fl.length c) ∧ TyAt w' (max d d2 + 1) ⟨0, 0, fl⟩ a c ∧ fl.length ≤ c ∧ Below w.heap.size w w' := by
  subst hfl
  have K := join_any (P := fun _ => True) (d := max d d2) B 0 2 [l, m] (l ++ m) (by simp) w (lt_of_get hh) (by simp) (fun i hi => by
    have hi2 : i = 0 ∨ i = 1 := by simp at hi; omega
    rcases hi2 with rfl | rfl
    · exact ⟨a, c, cell_of_row _ _ 0 _ _ _ hh, (hl.more (by omega)).free⟩
    · exact ⟨a2, c2, cell_of_row _ _ 1 _ _ _ hh, (hm.more (by omega)).free⟩) (by rw [List.length_append]; exact hs) (fun _ _ => trivial)
  refine K.mono ?_
  rintro e w' ⟨a, c, he, hL, hb⟩
  exact ⟨a, c, he, hL.1.at, hL.2, hb⟩
theorem join3 {d d2 d3 : Nat} (B : Nat) (l m n fl : List Ty) (hfl : l ++ m ++ n = fl) {a : Option Addr} {c : Nat} {a2 : Option Addr} {c2 : Nat} {a3 : Option Addr} {c3 : Nat} (w : World) (hh : w.heap[B]? = some (.cells #[.slice a l.length c, .slice a2 m.length c2, .slice a3 n.length c3] 22 (0, 0))) (hl : TyAt w (d + 1) ⟨0, 0, l⟩ a c) (hm : TyAt w (d2 + 1) ⟨0, 0, m⟩ a2 c2) (hn : TyAt w (d3 + 1) ⟨0, 0, n⟩ a3 c3) (hs : l.length + m.length + n.length ≤ 1000) :
    Calls Try.prog 52 #[.slice (some ⟨B, 0, none⟩) 3 3] w fun e w' => ∃ a c, e = .returned (.slice a fl.length c) ∧ TyAt w' (max (max d d2) d3 + 1) ⟨0, 0, fl⟩ a c ∧ fl.length ≤ c ∧ Below w.heap.size w w' := by
  subst hfl
  have K := join_any (P := fun _ => True) (d := max (max d d2) d3) B 0 3 [l, m, n] (l ++ m ++ n) (by simp) w (lt_of_get hh) (by simp) (fun i hi => by
    have hi2 : i = 0 ∨ i = 1 ∨ i = 2 := by simp at hi; omega
    rcases hi2 with rfl | rfl | rfl
    · exact ⟨a, c, cell_of_row _ _ 0 _ _ _ hh, (hl.more (by omega)).free⟩
    · exact ⟨a2, c2, cell_of_row _ _ 1 _ _ _ hh, (hm.more (by omega)).free⟩
    · exact ⟨a3, c3, cell_of_row _ _ 2 _ _ _ hh, (hn.more (by omega)).free⟩) (by rw [List.length_append, List.length_append]; exact hs) (fun _ _ => trivial)
  refine K.mono ?_
  rintro e w' ⟨a, c, he, hL, hb⟩
  exact ⟨a, c, he, hL.1.at, hL.2, hb⟩
theorem fix_bool (p : Prop) : ∃ r : Bool, (r = true ↔ p) := by
  classical
  exact ⟨decide p, by simp⟩
theorem bool_false {r : Bool} {p : Prop} (h : r = true ↔ p) (hn : ¬ p) : r = false := by
  cases r
  · rfl
  · exact absurd (h.1 rfl) hn
set_option maxHeartbeats 1000000 in
theorem says_any {P : Nat → Prop} {d e d1 d2 : Nat} (q : Pf) (y : Pl) (l : List Ty) (a : Option Addr) (c : Nat) (g : Ty) (ag : Option Addr) (cg : Nat) (w : World) (r : Bool) (hq : PfAt P w d e q y) (hl : TyAt w (d1 + 1) ⟨0, 0, l⟩ a c) (hg : TyAt w d2 g ag cg) (hr : r = true ↔ q.left = l ∧ q.goal = g) :
    Calls Try.prog 51 #[vpf q y, .slice a l.length c, vty g ag cg] w fun e w' => e = .returned (.bool r) ∧ Below w.heap.size w w' := by
  obtain ⟨e', rfl⟩ := hq.pos
  obtain ⟨_, _, _, hL, hG, _, _⟩ := hq
  obtain ⟨r1, h1⟩ := fix_bool (q.left = l)
  obtain ⟨r2, h2⟩ := fix_bool (q.goal = g)
  have K43 := fun W hW => ares_doc d d1 0 0 0 0 q.left l y.la y.lc a c W r1 h1 (hL.1.at.below hW) (hl.below hW)
  have K16 := fun W hW => same_doc d q.goal y.ga y.gc d2 g ag cg W r2 h2 (hG.at.below hW) (hg.below hW)
  have hrr : r = (r1 && r2) := by
    cases r1 <;> cases r2 <;> simp_all
  clear hL hG hl hg hr h1 h2
  subst hrr
  unfold vpf vty
  unfold vty at K16
  go_enter Try.func51, Try.ntmps51
  go_upto_region 1 with fail
  obtain ⟨x1, x2, hVs, hVb⟩ := two_boxes w (.cells #[.int .i64 q.step, .slice y.la q.left.length y.lc, .int .i64 q.goal.kind, .int .i64 q.goal.n, .slice y.ga q.goal.kids.length y.gc, .int .i64 q.ix, .int .i64 q.n, .slice y.ka q.kids.length y.kc] 37) (.cells #[.int .i64 g.kind, .int .i64 g.n, .slice ag g.kids.length cg] 24)
  generalize hV : (w.alloc (.cells #[.int .i64 q.step, .slice y.la q.left.length y.lc, .int .i64 q.goal.kind, .int .i64 q.goal.n, .slice y.ga q.goal.kids.length y.gc, .int .i64 q.ix, .int .i64 q.n, .slice y.ka q.kids.length y.kc] 37)).alloc (.cells #[.int .i64 g.kind, .int .i64 g.n, .slice ag g.kids.length cg] 24) = V at *
  clear hV
  have HVS : Hid _ := hVs
  clear hVs
  have i1 := cell_of_row _ _ 1 _ _ _ x1
  cases r1 with
  | false =>
    go_wp2_with (go_at_call 43; (with_reducible refine (K43 _ hVb).mono ?_); rintro e5 w5 ⟨rfl, hb5⟩; clear K43)
    go_ret
    exact ⟨rfl, hVb.trans (hb5.mono hVb.size)⟩
  | true =>
    go_wp2_with (first | (go_at_call 43; (with_reducible refine (K43 _ hVb).mono ?_); rintro e5 w5 ⟨rfl, hb5⟩; clear K43; have hB5 := hVb.trans (hb5.mono hVb.size); have y1 := (hb5.block _ (lt_of_get x1)).trans x1; have y2 := (hb5.block _ (lt_of_get x2)).trans x2; have j2 := cell_of_row _ _ 2 _ _ _ y1; have j3 := cell_of_row _ _ 3 _ _ _ y1; have j4 := cell_of_row _ _ 4 _ _ _ y1; have k0 := cell_of_row _ _ 0 _ _ _ y2; have k1 := cell_of_row _ _ 1 _ _ _ y2; have k2 := cell_of_row _ _ 2 _ _ _ y2) | (go_at_call 16; (with_reducible refine (K16 _ hB5).mono ?_); rintro e6 w6 ⟨rfl, hb6⟩; clear K16))
    go_ret
    exact ⟨rfl, hB5.trans (hb6.mono hB5.size)⟩
/-- whose proofs are right: what the step asks besides -/
theorem rt_iff {p : Pf} (hall : ∀ x ∈ p.kids, Rt x) {ss : List (List Ty × Ty)} (h : bef p = some ss) : Rt p ↔ p.kids.length = ss.length ∧ ∀ j (hj : j < p.kids.length) (hj' : j < ss.length), p.kids[j].left = ss[j].1 ∧ p.kids[j].goal = ss[j].2 := by
  rw [rt_some h]
  refine and_congr_right fun _ => ?_
  exact ⟨fun q j hj hj' => ⟨(q j hj hj').1, (q j hj hj').2.1⟩, fun q j hj hj' => ⟨(q j hj hj').1, (q j hj hj').2, hall _ (List.getElem_mem hj)⟩⟩
theorem rt_one {p a : Pf} {l1 : List Ty} {g1 : Ty} (hk : p.kids = [a]) (ha : Rt a) (h : bef p = some [(l1, g1)]) : Rt p ↔ a.left = l1 ∧ a.goal = g1 := by
  rw [rt_iff (fun x hx => by rw [hk] at hx; simp only [List.mem_cons, List.not_mem_nil, or_false] at hx; rw [hx]; exact ha) h]
  simp only [hk]
  constructor
  · rintro ⟨_, q⟩
    exact q 0 (by simp) (by simp)
  · intro q
    refine ⟨rfl, fun j hj hj' => ?_⟩
    have : j = 0 := by simp at hj; omega
    subst this
    exact q
theorem rt_two {p a b : Pf} {l1 l2 : List Ty} {g1 g2 : Ty} (hk : p.kids = [a, b]) (ha : Rt a) (hb : Rt b) (h : bef p = some [(l1, g1), (l2, g2)]) : Rt p ↔ (a.left = l1 ∧ a.goal = g1) ∧ (b.left = l2 ∧ b.goal = g2) := by
  rw [rt_iff (fun x hx => by
    rw [hk] at hx
    simp only [List.mem_cons, List.not_mem_nil, or_false] at hx
    rcases hx with hx | hx
    · rw [hx]; exact ha
    · rw [hx]; exact hb) h]
  simp only [hk]
  constructor
  · rintro ⟨_, q⟩
    exact ⟨q 0 (by simp) (by simp), q 1 (by simp) (by simp)⟩
  · rintro ⟨q1, q2⟩
    refine ⟨rfl, fun j hj hj' => ?_⟩
    have : j = 0 ∨ j = 1 := by simp at hj; omega
    rcases this with rfl | rfl
    · exact q1
    · exact q2
/-- no such step -/
theorem rt_left0 {p : Pf} (h : p.left.length = 0) : ¬ Rt p := by
  refine rt_none ?_
  have h0 : p.left = [] := List.length_eq_zero_iff.1 h
  by_cases hs : p.step = 4 ∨ p.step = 5 ∨ p.step = 6
  · rw [bef_two hs]
    unfold bef2
    rw [if_pos (by omega)]
  · exact bef_off hs (.inr (.inr h0))
theorem rt_step {p : Pf} (h : p.step < 1 ∨ 6 < p.step) : ¬ Rt p := rt_none (bef_not (by omega) (by omega) (by omega) (by omega))
theorem rt_at {p : Pf} (h : p.step ≤ 3) (h' : p.ix ≠ 0 ∨ p.n ≠ 0) : ¬ Rt p := rt_none (bef_off (by omega) (by rcases h' with h' | h'; exact .inl h'; exact .inr (.inl h')))
theorem rt_same {left : List Ty} {goal : Ty} {kids : List Pf} (h0 : left ≠ []) : Rt ⟨1, left, goal, 0, 0, kids⟩ ↔ kids.length = 0 ∧ left = [goal] := by
  by_cases h : left = [goal]
  · rw [rt_some ((bef_same h0).1 h)]
    constructor
    · rintro ⟨q, _⟩
      exact ⟨q, h⟩
    · rintro ⟨q, _⟩
      refine ⟨q, fun j hj hj' => ?_⟩
      simp at hj'
  · constructor
    · intro q
      exact absurd q (rt_none ((bef_same h0).2 h))
    · rintro ⟨_, q⟩
      exact absurd q h
theorem rt_goal {p : Pf} (h : p.step = 2 ∨ p.step = 3) (h' : p.kids.length ≠ 1 ∨ p.goal.kind ≠ p.step) : ¬ Rt p := by
  intro hr
  rw [Rt] at hr
  obtain ⟨ss, hb, hl, _⟩ := hr
  unfold bef at hb
  rw [if_neg (by omega)] at hb
  by_cases h0 : p.ix ≠ 0 ∨ p.n ≠ 0 ∨ p.left = []
  · rw [if_pos h0] at hb; cases hb
  rw [if_neg h0, if_neg (by omega)] at hb
  by_cases h2 : p.step = 2 ∧ p.goal.kind = 2
  · rw [if_pos h2] at hb
    obtain rfl := Option.some.inj hb
    rcases h' with h' | h'
    · exact h' hl
    · exact h' (by omega)
  rw [if_neg h2] at hb
  by_cases h3 : p.step = 3 ∧ p.goal.kind = 3
  · rw [if_pos h3] at hb
    obtain rfl := Option.some.inj hb
    rcases h' with h' | h'
    · exact h' hl
    · exact h' (by omega)
  rw [if_neg h3] at hb
  cases hb
theorem rt_two0 {p : Pf} (hs : p.step = 4 ∨ p.step = 5 ∨ p.step = 6) (h' : p.kids.length ≠ 2 ∨ p.ix < 0 ∨ p.n < 1 ∨ (p.left.length : Int) < p.ix ∨ (p.left.length : Int) - p.ix < p.n) : ¬ Rt p := by
  intro hr
  rw [Rt] at hr
  obtain ⟨ss, hb, hl, _⟩ := hr
  rw [bef_two hs] at hb
  rcases h' with h' | h'
  · obtain ⟨i, m, _, _, hc⟩ := bef2_inv hs hb
    rcases hc with ⟨_, t, _, _, rfl⟩ | ⟨_, t, B, _, _, rfl⟩ | ⟨_, k, ks, _, rfl⟩ <;> exact h' hl
  · unfold bef2 at hb
    rw [if_pos h'] at hb
    cases hb
theorem rt_bef2 {p : Pf} (hs : p.step = 4 ∨ p.step = 5 ∨ p.step = 6) (h : bef2 p = none) : ¬ Rt p := rt_none (by rw [bef_two hs]; exact h)
/-- a box, and two others behind it -/
structure S3 (w : World) (O : Obj) (A B : Nat) (x : Ty) (ax : Option Addr) (cx : Nat) (y : Ty) (ay : Option Addr) (cy : Nat) (W : World) : Prop where
  bel : Below w.heap.size w W
  box : W.heap[w.heap.size]? = some O
  ha : w.heap.size < A
  hb : w.heap.size < B
  ne : A ≠ B
  ra : W.heap[A]? = some (.cells #[.int .i64 x.kind, .int .i64 x.n, .slice ax x.kids.length cx] 24 (0, 0))
  rb : W.heap[B]? = some (.cells #[.int .i64 y.kind, .int .i64 y.n, .slice ay y.kids.length cy] 24 (0, 0))
theorem S3.below {w : World} {O : Obj} {A B : Nat} {x : Ty} {ax : Option Addr} {cx : Nat} {y : Ty} {ay : Option Addr} {cy : Nat} {W W' : World} (h : S3 w O A B x ax cx y ay cy W) (hb : Below W.heap.size W W') : S3 w O A B x ax cx y ay cy W' :=
  ⟨h.bel.trans (hb.mono h.bel.size), (hb.block _ (lt_of_get h.box)).trans h.box, h.ha, h.hb, h.ne, (hb.block _ (lt_of_get h.ra)).trans h.ra, (hb.block _ (lt_of_get h.rb)).trans h.rb⟩
theorem S3.setA {w : World} {O : Obj} {A B : Nat} {x : Ty} {ax : Option Addr} {cx : Nat} {y : Ty} {ay : Option Addr} {cy : Nat} {W : World} (h : S3 w O A B x ax cx y ay cy W) (z : Ty) (az : Option Addr) (cz : Nat) : S3 w O A B z az cz y ay cy (((W.setCell ⟨A, 0, none⟩ (.int .i64 z.kind)).setCell ⟨A, 1, none⟩ (.int .i64 z.n)).setCell ⟨A, 2, none⟩ (.slice az z.kids.length cz)) := by
  have hA := Nat.le_of_lt h.ha
  have k := ko3 W A (.int .i64 z.kind) (.int .i64 z.n) (.slice az z.kids.length cz)
  exact ⟨((h.bel.setCell (p := ⟨A, 0, none⟩) hA _).setCell (p := ⟨A, 1, none⟩) hA _).setCell (p := ⟨A, 2, none⟩) hA _, (k _ (Nat.ne_of_lt h.ha)).trans h.box, h.ha, h.hb, h.ne, laid_box h.ra _ _ _ _ _, (k _ (Ne.symm h.ne)).trans h.rb⟩
theorem S3.setB {w : World} {O : Obj} {A B : Nat} {x : Ty} {ax : Option Addr} {cx : Nat} {y : Ty} {ay : Option Addr} {cy : Nat} {W : World} (h : S3 w O A B x ax cx y ay cy W) (z : Ty) (az : Option Addr) (cz : Nat) : S3 w O A B x ax cx z az cz (((W.setCell ⟨B, 0, none⟩ (.int .i64 z.kind)).setCell ⟨B, 1, none⟩ (.int .i64 z.n)).setCell ⟨B, 2, none⟩ (.slice az z.kids.length cz)) := by
  have hA := Nat.le_of_lt h.hb
  have k := ko3 W B (.int .i64 z.kind) (.int .i64 z.n) (.slice az z.kids.length cz)
  exact ⟨((h.bel.setCell (p := ⟨B, 0, none⟩) hA _).setCell (p := ⟨B, 1, none⟩) hA _).setCell (p := ⟨B, 2, none⟩) hA _, (k _ (Nat.ne_of_lt h.hb)).trans h.box, h.ha, h.hb, h.ne, (k _ h.ne).trans h.ra, laid_box h.rb _ _ _ _ _⟩
end Go.Proofs.Ytbmgkgoghgdbhaa.Te
