/- TalkPlays, up to the steps: both talkers of either kind are made. Condition: what comes behind holds (Steps). -/
import Derived.Test.YtmhgoddlbklbfaaLi
import Derived.Deep.CutRange
import Derived.Test.YtmhgoddlbklbfaaZz
import Derived.Deep.Cut
namespace Go.Proofs.Ytmhgoddlbklbfaa.Lb
open Go.RowKit Ta Tb Ra Zz

theorem new_pair (W n : Int) : (∃ e : Int, (∀ w, Calls Try.prog 6 #[.int .i64 W, .int .i64 n] w fun x w' => x = .returned (.tuple #[.pointer none, .int .i64 e]) ∧ w' = w) ∧ (∀ w, Calls Try.prog 7 #[.int .i64 W, .int .i64 n] w fun x w' => x = .returned (.tuple #[.pointer none, .int .i64 e]) ∧ w' = w)) ∨
    (∃ N : Nat, n = (N : Int) ∧ 1 ≤ N ∧ N ≤ 20 ∧ whoB W = true ∧ 1 ≤ W ∧ W ≤ 9) := by
  by_cases hw : 1 ≤ W ∧ W ≤ 9
  · have hb : whoB W = true := decide_eq_true hw
    by_cases hn : n < 1 ∨ 20 < n
    · exact .inl ⟨7, fun w => new_many hb hn, fun w => newdoc_many hw.1 hw.2 hn⟩
    · exact .inr ⟨n.toNat, by omega, by omega, by omega, hb, hw.1, hw.2⟩
  · have hb : whoB W = false := decide_eq_false hw
    exact .inl ⟨3, fun w => new_who hb, fun w => newdoc_who (by omega)⟩
theorem own_base {w : World} {b b' e size : Nat} {v : Value} {n : Nat} {xs : List Value} (h : w.ownsRow b e size v n xs) (hb : b' ≤ b) : w.ownsRow b' e size v n xs := by
  obtain ⟨h1, h | ⟨g, cap, cur, hv, hg, hr⟩⟩ := h
  · exact ⟨h1, .inl h⟩
  · exact ⟨h1, .inr ⟨g, cap, cur, hv, by omega, hr⟩⟩
/-- two talkers, or none -/
def Pr (lo hi base : Nat) (W n : Int) (wr : World) (x y : Option Addr) : Prop := (x = none ∧ y = none) ∨ ∃ (N p q s c : Nat), n = (N : Int) ∧ 1 ≤ N ∧ N ≤ 20 ∧ x = some ⟨p, 0, none⟩ ∧ y = some ⟨q, 0, none⟩ ∧ lo ≤ p ∧ p < q ∧ s < hi ∧ Tk wr p W (N : Int) (newS N) ∧ Rk wr base q s c W (newQ N)
theorem Pr.below {lo hi base : Nat} {W n : Int} {wr W' : World} {x y : Option Addr} (h : Pr lo hi base W n wr x y) (hb : Below hi wr W') : Pr lo hi base W n W' x y := by
  rcases h with h | ⟨N, p, q, s, c, h1, h2, h3, h4, h5, h6, h7, h8, h9, h10⟩
  · exact .inl h
  · have := h10.2.2
    exact .inr ⟨N, p, q, s, c, h1, h2, h3, h4, h5, h6, h7, h8, ⟨(hb.block p (by omega)).trans h9.1, h9.2⟩, Ra.Rk.low h10 hb (by omega) (by omega)⟩
/-- both boxes -/
structure Bo (w : World) (P : Nat) (x0 x1 y0 y1 : Option Addr) (wr : World) : Prop where
  bel : Below w.heap.size w wr
  lo : w.heap.size ≤ P
  hi : P + 2 ≤ wr.heap.size
  p : wr.heap[P]? = some (.cells #[.pointer x0, .pointer x1] 25 (0, 0))
  q : wr.heap[P + 1]? = some (.cells #[.pointer y0, .pointer y1] 27 (0, 0))
def L1 (w : World) (P : Nat) (one two n : Int) (i : Nat) (wr : World) : Prop := ∃ x0 x1 y0 y1 mid, Bo w P x0 x1 y0 y1 wr ∧ P + 2 ≤ mid ∧ mid ≤ wr.heap.size ∧ (1 ≤ i → Pr (P + 2) mid w.heap.size one n wr x0 y0) ∧ (2 ≤ i → Pr mid wr.heap.size w.heap.size two n wr x1 y1)
theorem Bo.low {w : World} {P : Nat} {x0 x1 y0 y1 : Option Addr} {wr W' : World} (h : Bo w P x0 x1 y0 y1 wr) (hb : Below wr.heap.size wr W') : Bo w P x0 x1 y0 y1 W' := by
  have := h.hi
  exact ⟨h.bel.trans (hb.mono h.bel.size), h.lo, Nat.le_trans h.hi hb.size, (hb.block P (by omega)).trans h.p, (hb.block (P + 1) (by omega)).trans h.q⟩

theorem Pr.lo {lo lo' hi base : Nat} {W n : Int} {wr : World} {x y : Option Addr} (h : Pr lo hi base W n wr x y) (hl : lo' ≤ lo) : Pr lo' hi base W n wr x y := by
  rcases h with h | ⟨N, p, q, s, c, h1, h2, h3, h4, h5, h6, h7⟩
  · exact .inl h
  · exact .inr ⟨N, p, q, s, c, h1, h2, h3, h4, h5, by omega, h7⟩
theorem Pr.hi {lo hi hi' base : Nat} {W n : Int} {wr : World} {x y : Option Addr} (h : Pr lo hi base W n wr x y) (hl : hi ≤ hi') : Pr lo hi' base W n wr x y := by
  rcases h with h | ⟨N, p, q, s, c, h1, h2, h3, h4, h5, h6, h7, h8, h9⟩
  · exact .inl h
  · exact .inr ⟨N, p, q, s, c, h1, h2, h3, h4, h5, h6, h7, by omega, h9⟩
theorem bo_set0 {w : World} {P : Nat} {x0 x1 y0 y1 : Option Addr} {wr : World} (h : Bo w P x0 x1 y0 y1 wr) (x y : Option Addr) : Bo w P x x1 y y1 ((wr.setCell ⟨P, 0, none⟩ (.pointer x)).setCell ⟨P + 1, 0, none⟩ (.pointer y)) := by
  have l := h.lo
  refine ⟨(h.bel.setCell (p := ⟨P, 0, none⟩) l _).setCell (p := ⟨P + 1, 0, none⟩) (by show w.heap.size ≤ P + 1; omega) _, l, by simp; exact h.hi, ?_, ?_⟩
  · rw [heap_setCell_other _ _ _ _ (by show P ≠ P + 1; omega), heap_setCell_same _ P 0 _ 25 _ h.p]
    simp
  · have := heap_setCell_same (wr.setCell ⟨P, 0, none⟩ (.pointer x)) (P + 1) 0 _ 27 (.pointer y) ((heap_setCell_other _ _ _ _ (by show P + 1 ≠ P; omega)).trans h.q)
    rw [this]
    simp
theorem bo_set1 {w : World} {P : Nat} {x0 x1 y0 y1 : Option Addr} {wr : World} (h : Bo w P x0 x1 y0 y1 wr) (x y : Option Addr) : Bo w P x0 x y0 y ((wr.setCell ⟨P, 1, none⟩ (.pointer x)).setCell ⟨P + 1, 1, none⟩ (.pointer y)) := by
  have l := h.lo
  refine ⟨(h.bel.setCell (p := ⟨P, 1, none⟩) l _).setCell (p := ⟨P + 1, 1, none⟩) (by show w.heap.size ≤ P + 1; omega) _, l, by simp; exact h.hi, ?_, ?_⟩
  · rw [heap_setCell_other _ _ _ _ (by show P ≠ P + 1; omega), heap_setCell_same _ P 1 _ 25 _ h.p]
    simp
  · have := heap_setCell_same (wr.setCell ⟨P, 1, none⟩ (.pointer x)) (P + 1) 1 _ 27 (.pointer y) ((heap_setCell_other _ _ _ _ (by show P + 1 ≠ P; omega)).trans h.q)
    rw [this]
    simp
theorem Pr.set {w : World} {P lo hi base k : Nat} {W n : Int} {wr : World} {x y x0 x1 y0 y1 : Option Addr} {u v : Value} (h : Pr lo hi base W n wr x y) (_ : Bo w P x0 x1 y0 y1 wr) (hl : P + 2 ≤ lo) : Pr lo hi base W n ((wr.setCell ⟨P, k, none⟩ u).setCell ⟨P + 1, k, none⟩ v) x y := by
  rcases h with h | ⟨N, p, q, s, c, h1, h2, h3, h4, h5, h6, h7, h8, h9, h10⟩
  · exact .inl h
  · have hq := h10.2.2
    have k1 := ko_set wr P k u
    have k2 := ko_set (wr.setCell ⟨P, k, none⟩ u) (P + 1) k v
    exact .inr ⟨N, p, q, s, c, h1, h2, h3, h4, h5, h6, h7, h8, (h9.ko k1 (by omega)).ko k2 (by omega), (h10.ko k1 (by omega) (by omega)).ko k2 (by omega) (by omega)⟩

/-- a step of two talkers -/
structure Sp where
  dO : Int
  who : Int
  sl : Int
  n : Int
  val : ByteArray
  stay : Bool
  la : Option Addr
  lc : Nat
  l : List To
def oc (o : Sp) : List Value := [.int .i64 o.dO, .int .i64 o.who, .int .i64 o.sl, .int .i64 o.n, .string o.val, .bool o.stay, .slice o.la o.l.length o.lc]
def i64B (x : Int) : Prop := -9223372036854775808 ≤ x ∧ x ≤ 9223372036854775807
/-- steps, to be read -/
def IsO (w : World) (a : Option Addr) (os : List Sp) : Prop := os.length ≤ 140737488355328 ∧ (∀ o ∈ os, IsT w o.la o.l ∧ (o.l.length = 0 ∨ ∀ p, o.la = some p → p.block < w.heap.size) ∧ i64B o.who ∧ i64B o.n ∧ o.l.length * 48 ≤ 140737488355328) ∧ (os.length = 0 ∨ ∃ g off, a = some ⟨g, off, none⟩ ∧ g < w.heap.size ∧ ∀ j u, (os.flatMap oc)[j]? = some u → w.cell? ⟨g, off + j, none⟩ = some u)
theorem IsO.at {w : World} {a : Option Addr} {os : List Sp} (h : IsO w a os) {i : Nat} (hi : i < os.length) : ∃ g off, a = some ⟨g, off, none⟩ ∧ g < w.heap.size ∧ w.cell? ⟨g, off + i * 7, none⟩ = some (.int .i64 os[i].dO) ∧ w.cell? ⟨g, off + i * 7 + 1, none⟩ = some (.int .i64 os[i].who) ∧ w.cell? ⟨g, off + i * 7 + 2, none⟩ = some (.int .i64 os[i].sl) ∧ w.cell? ⟨g, off + i * 7 + 3, none⟩ = some (.int .i64 os[i].n) ∧ w.cell? ⟨g, off + i * 7 + 4, none⟩ = some (.string os[i].val) ∧ w.cell? ⟨g, off + i * 7 + 5, none⟩ = some (.bool os[i].stay) ∧ w.cell? ⟨g, off + i * 7 + 6, none⟩ = some (.slice os[i].la os[i].l.length os[i].lc) := by
  obtain ⟨_, _, h | ⟨g, off, hg, hl, hc⟩⟩ := h
  · omega
  · have e := fun k (hk : k < 7) => fm_at oc 7 (fun _ => rfl) os i hi k hk
    refine ⟨g, off, hg, hl, hc (i * 7) _ ?_, ?_, ?_, ?_, ?_, ?_, ?_⟩
    · have := e 0 (by omega); rw [Nat.add_zero] at this; rw [this]; rfl
    all_goals rw [Nat.add_assoc]
    · exact hc _ _ (by rw [e 1 (by omega)]; rfl)
    · exact hc _ _ (by rw [e 2 (by omega)]; rfl)
    · exact hc _ _ (by rw [e 3 (by omega)]; rfl)
    · exact hc _ _ (by rw [e 4 (by omega)]; rfl)
    · exact hc _ _ (by rw [e 5 (by omega)]; rfl)
    · exact hc _ _ (by rw [e 6 (by omega)]; rfl)
theorem way_nil (w : World) (b2 : Nat) (A : Nat → Prop) : Way w b2 A (.slice none 0 0) [] := ⟨[], ⟨by simp, .inl ⟨rfl, rfl⟩⟩, rfl, fun j h => by simp at h⟩
/-- the beginning -/
theorem St.start {w wr : World} {P mid : Nat} {oA oB : Int} {N : Nat} {x0 x1 y0 y1 : Option Addr} {p0 q0 s0 c0 p1 q1 s1 c1 : Nat} (hB : Bo w P x0 x1 y0 y1 wr) (e0 : x0 = some ⟨p0, 0, none⟩) (f0 : y0 = some ⟨q0, 0, none⟩) (e1 : x1 = some ⟨p1, 0, none⟩) (f1 : y1 = some ⟨q1, 0, none⟩) (hN : N ≤ 20) (l0 : P + 2 ≤ p0) (m0 : p0 < q0) (n0 : s0 < mid) (l1 : mid ≤ p1) (m1 : p1 < q1) (t0 : Tk wr p0 oA (N : Int) (newS N)) (r0 : Rk wr w.heap.size q0 s0 c0 oA (newQ N)) (t1 : Tk wr p1 oB (N : Int) (newS N)) (r1 : Rk wr w.heap.size q1 s1 c1 oB (newQ N)) :
    St w N (fun k => if k = 0 then oA else oB) ⟨P, P + 1, wr.heap.size, fun k => if k = 0 then p0 else p1, fun k => if k = 0 then q0 else q1, fun k => if k = 0 then s0 else s1, fun k => if k = 0 then c0 else c1, wr.heap.size + 1, w.heap.size⟩ (fun _ => newS N) (fun _ => newQ N) (fun _ => []) (fun _ => False) (wr.alloc (.cells #[.slice none 0 0, .slice none 0 0] 35)) := by
  subst e0 f0 e1 f1
  have hb : Below wr.heap.size wr (wr.alloc (.cells #[.slice none 0 0, .slice none 0 0] 35)) := (Below.refl _ wr).alloc (Nat.le_refl _) _
  have hB' := hB.low hb
  have hy := heap_alloc_new wr (.cells #[.slice none 0 0, .slice none 0 0] 35)
  have q0' := r0.2.2
  have q1' := r1.2.2
  have z1 := r1.lt.2
  have l := hB.lo
  refine ⟨hB'.bel, ?_, ?_, ?_, ?_, ?_, ?_, ?_, ?_, ?_⟩
  · simp; omega
  · intro k hk
    rcases k with _ | _ | k
    · exact cell_of_row _ _ 0 _ _ _ hB'.p
    · exact cell_of_row _ _ 1 _ _ _ hB'.p
    · omega
  · intro k hk
    rcases k with _ | _ | k
    · exact cell_of_row _ _ 0 _ _ _ hB'.q
    · exact cell_of_row _ _ 1 _ _ _ hB'.q
    · omega
  · intro k hk
    rcases k with _ | _ | k
    · exact t0.below hb
    · exact t1.below hb
    · omega
  · intro k hk
    rcases k with _ | _ | k
    · exact r0.below hb
    · exact r1.below hb
    · omega
  · intro k _
    exact sim_new hN
  · intro k hk
    rcases k with _ | _ | k
    · exact ⟨none, 0, 0, cell_of_row _ _ 0 _ _ _ hy, way_nil _ _ _⟩
    · exact ⟨none, 0, 0, cell_of_row _ _ 1 _ _ _ hy, way_nil _ _ _⟩
    · omega
  · intro g v0 v1 h0 h1 hg
    rw [cell_of_row _ _ 0 _ _ _ hy] at h0
    simp at h0
    subst h0
    cases hg
  · intro k
    exact frozen_of_row _ _ k _ _ hy

set_option maxHeartbeats 8000000 in
set_option maxRecDepth 100000 in
theorem plays (oA oB n : Int) (ao : Option Addr) (co : Nat) (os : List Sp) (w : World) (hO : IsO w ao os) : Calls Try.prog 3 #[.int .i64 oA, .int .i64 oB, .int .i64 n, .slice ao os.length co] w fun e w' => e = .returned (.bool true) ∧ Below w.heap.size w w' := by
  have KB := begun_any w
  have HP1 : Hid _ := new_pair oA n
  have HP2 : Hid _ := new_pair oB n
  go_enter Try.func3, Try.ntmps3
  go_wp2_with (go_at_call 5; (with_reducible refine KB.mono ?_); rintro e w1 ⟨rfl, hb1⟩)
  have hstart : L1 w w1.heap.size oA oB n 0 ((w1.alloc (.cells #[.pointer none, .pointer none] 25)).alloc (.cells #[.pointer none, .pointer none] 27)) := by
    have t := two w1 (.cells #[.pointer none, .pointer none] 25) (.cells #[.pointer none, .pointer none] 27)
    refine ⟨none, none, none, none, w1.heap.size + 2, ⟨(hb1.alloc hb1.size _).alloc (by have := hb1.size; simp; omega) _, hb1.size, by omega, t.1, t.2.1⟩, by omega, by omega, by omega, by omega⟩
  obtain ⟨P, hP⟩ : ∃ P, w1.heap.size = P := ⟨_, rfl⟩
  obtain ⟨W0, hW0⟩ : ∃ W0, (w1.alloc (.cells #[.pointer none, .pointer none] 25)).alloc (.cells #[.pointer none, .pointer none] 27) = W0 := ⟨_, rfl⟩
  rw [hW0, hP] at hstart
  rw [hW0, hP]
  have HST : Hid (L1 w P oA oB n 0 W0) := hstart
  clear hstart hP hW0 KB hb1
  go_loopw [11, 12, 13, 14, 15, 16] (fun iv _ _ _ _ _ wr => ∃ i : Nat, iv = .int .i64 (i : Int) ∧ i ≤ 2 ∧ L1 w P oA oB n i wr) (fun iv _ _ _ _ _ _ => 2 - (intOf iv).toNat)
  case atStart => exact ⟨0, rfl, by omega, HST.out⟩
  case round =>
    clear HST
    obtain ⟨i, rfl, hi, x0, x1, y0, y1, mid, hBo, hm1, hmid, hpr0, hpr1⟩ := hrel
    rcases i with _ | _ | _ | i
    · clear hpr0 hpr1
      rcases HP1.out with hbad | hgood
      · obtain ⟨er, k6, k7⟩ := hbad
        have ber : (er != er) = false := by simp
        go_upto_region 13 with (first | (go_at_call 6; (with_reducible refine (k6 _).mono ?_); rintro e w2 ⟨rfl, hw2⟩; rw [hw2]) | (go_at_call 7; (with_reducible refine (k7 _).mono ?_); rintro e w3 ⟨rfl, hw3⟩; rw [hw3]))
        obtain ⟨Wm, hWm⟩ : ∃ Wm, wr.alloc (.cells #[.int .i64 oA, .int .i64 oB] 3) = Wm := ⟨_, rfl⟩
        rw [hWm]
        have hbm : Below wr.heap.size wr Wm := hWm ▸ (Below.refl _ wr).alloc (Nat.le_refl _) _
        clear hWm
        have HPr : Hid (∀ lo hi, Pr lo hi w.heap.size oA n Wm none none) := fun lo hi => .inl ⟨rfl, rfl⟩
        have hBm := hBo.low hbm
        have fP := cell_of_row _ _ 0 _ _ _ hBm.p
        have fQ := cell_of_row _ _ 0 _ _ _ hBm.q
        have zP := frozen_of_row _ _ 0 _ _ hBm.p
        have zQ := frozen_of_row _ _ 0 _ _ hBm.q
        have hPQ : P + 1 ≠ P := by omega
        go_wp2
        go_roundw
        case rel =>
          refine ⟨0 + 1, by go_num, by omega, none, x1, none, y1, Wm.heap.size, bo_set0 hBm none none, by have := hBm.hi; omega, by simp, fun _ => ?_, fun h => by omega⟩
          exact HPr.out _ _ |>.set hBm (by have := hBm.hi; omega)
        case measure => simp [intOf]
      · obtain ⟨M, rfl, hM1, hM2, hwb, hw1, hw2⟩ := hgood
        have K6 := fun w' => new_ok (w := w') (W := oA) (N := M) hwb hM1 hM2
        have K7 := fun w' => new_doc (w := w') (W := oA) (N := M) hw1 hw2 hM1 hM2
        go_upto_region 13 with (first | (go_at_call 6; (with_reducible refine (K6 _).mono ?_); rintro e w2 ⟨p, rfl, hp, hT, hb2⟩) | (go_at_call 7; (with_reducible refine (K7 w2).mono ?_); rintro e w3 ⟨q, s, c, rfl, hq, hR, hb3⟩))
        obtain ⟨Wm, hWm⟩ : ∃ Wm, w3 = Wm := ⟨_, rfl⟩
        rw [hWm] at hR hb3 ⊢
        clear hWm
        have hbA : Below wr.heap.size wr (wr.alloc (.cells #[.int .i64 oA, .int .i64 oB] 3)) := (Below.refl _ wr).alloc (Nat.le_refl _) _
        have hb2' : Below wr.heap.size wr w2 := hbA.trans (hb2.mono hbA.size)
        have hbm : Below wr.heap.size wr Wm := hb2'.trans (hb3.mono hb2'.size)
        have hsA := hbA.size
        have hs2 := hb2'.size
        have hsw := hBo.bel.size
        have HPr : Hid (Pr wr.heap.size Wm.heap.size w.heap.size oA (M : Int) Wm (some ⟨p, 0, none⟩) (some ⟨q, 0, none⟩)) := .inr ⟨M, p, q, s, c, rfl, hM1, hM2, rfl, rfl, by omega, Nat.lt_of_lt_of_le hT.lt hq, hR.lt.2, hT.below hb3, ⟨hR.1, own_base hR.2.1 (by omega), hR.2.2⟩⟩
        have hBm := hBo.low hbm
        have fP := cell_of_row _ _ 0 _ _ _ hBm.p
        have fQ := cell_of_row _ _ 0 _ _ _ hBm.q
        have zP := frozen_of_row _ _ 0 _ _ hBm.p
        have zQ := frozen_of_row _ _ 0 _ _ hBm.q
        have hPQ : P + 1 ≠ P := by omega
        go_wp2
        go_roundw
        case rel =>
          refine ⟨0 + 1, by go_num, by omega, (some ⟨p, 0, none⟩), x1, (some ⟨q, 0, none⟩), y1, Wm.heap.size, bo_set0 hBm (some ⟨p, 0, none⟩) (some ⟨q, 0, none⟩), by have := hBm.hi; omega, by simp, fun _ => ?_, fun h => by omega⟩
          exact (HPr.out.lo hBo.hi).set hBm (by have := hBm.hi; omega)
        case measure => simp [intOf]
    · clear hpr1
      rcases HP2.out with hbad | hgood
      · obtain ⟨er, k6, k7⟩ := hbad
        have ber : (er != er) = false := by simp
        go_upto_region 13 with (first | (go_at_call 6; (with_reducible refine (k6 _).mono ?_); rintro e w2 ⟨rfl, hw2⟩; rw [hw2]) | (go_at_call 7; (with_reducible refine (k7 _).mono ?_); rintro e w3 ⟨rfl, hw3⟩; rw [hw3]))
        obtain ⟨Wm, hWm⟩ : ∃ Wm, wr.alloc (.cells #[.int .i64 oA, .int .i64 oB] 3) = Wm := ⟨_, rfl⟩
        rw [hWm]
        have hbm : Below wr.heap.size wr Wm := hWm ▸ (Below.refl _ wr).alloc (Nat.le_refl _) _
        clear hWm
        have HPr : Hid (∀ lo hi, Pr lo hi w.heap.size oB n Wm none none) := fun lo hi => .inl ⟨rfl, rfl⟩
        have hBm := hBo.low hbm
        have fP := cell_of_row _ _ 1 _ _ _ hBm.p
        have fQ := cell_of_row _ _ 1 _ _ _ hBm.q
        have zP := frozen_of_row _ _ 1 _ _ hBm.p
        have zQ := frozen_of_row _ _ 1 _ _ hBm.q
        have hPQ : P + 1 ≠ P := by omega
        go_wp2
        go_roundw
        case rel =>
          refine ⟨0 + 1 + 1, by go_num, by omega, x0, none, y0, none, wr.heap.size, bo_set1 hBm none none, hBo.hi, by have := hbm.size; simp; omega, fun _ => ?_, fun _ => ?_⟩
          · exact (((hpr0 (by omega)).hi hmid).below hbm).set hBm (by have := hBm.hi; have := hBo.hi; omega)
          · have e : ((Wm.setCell ⟨P, 1, none⟩ (.pointer none)).setCell ⟨P + 1, 1, none⟩ (.pointer none)).heap.size = Wm.heap.size := by simp
            rw [e]
            exact (HPr.out _ _).set hBm (by have := hBm.hi; have := hBo.hi; omega)
        case measure => simp [intOf]
      · obtain ⟨M, rfl, hM1, hM2, hwb, hw1, hw2⟩ := hgood
        have K6 := fun w' => new_ok (w := w') (W := oB) (N := M) hwb hM1 hM2
        have K7 := fun w' => new_doc (w := w') (W := oB) (N := M) hw1 hw2 hM1 hM2
        go_upto_region 13 with (first | (go_at_call 6; (with_reducible refine (K6 _).mono ?_); rintro e w2 ⟨p, rfl, hp, hT, hb2⟩) | (go_at_call 7; (with_reducible refine (K7 w2).mono ?_); rintro e w3 ⟨q, s, c, rfl, hq, hR, hb3⟩))
        obtain ⟨Wm, hWm⟩ : ∃ Wm, w3 = Wm := ⟨_, rfl⟩
        rw [hWm] at hR hb3 ⊢
        clear hWm
        have hbA : Below wr.heap.size wr (wr.alloc (.cells #[.int .i64 oA, .int .i64 oB] 3)) := (Below.refl _ wr).alloc (Nat.le_refl _) _
        have hb2' : Below wr.heap.size wr w2 := hbA.trans (hb2.mono hbA.size)
        have hbm : Below wr.heap.size wr Wm := hb2'.trans (hb3.mono hb2'.size)
        have hsA := hbA.size
        have hs2 := hb2'.size
        have hsw := hBo.bel.size
        have HPr : Hid (Pr wr.heap.size Wm.heap.size w.heap.size oB (M : Int) Wm (some ⟨p, 0, none⟩) (some ⟨q, 0, none⟩)) := .inr ⟨M, p, q, s, c, rfl, hM1, hM2, rfl, rfl, by omega, Nat.lt_of_lt_of_le hT.lt hq, hR.lt.2, hT.below hb3, ⟨hR.1, own_base hR.2.1 (by omega), hR.2.2⟩⟩
        have hBm := hBo.low hbm
        have fP := cell_of_row _ _ 1 _ _ _ hBm.p
        have fQ := cell_of_row _ _ 1 _ _ _ hBm.q
        have zP := frozen_of_row _ _ 1 _ _ hBm.p
        have zQ := frozen_of_row _ _ 1 _ _ hBm.q
        have hPQ : P + 1 ≠ P := by omega
        go_wp2
        go_roundw
        case rel =>
          refine ⟨0 + 1 + 1, by go_num, by omega, x0, (some ⟨p, 0, none⟩), y0, (some ⟨q, 0, none⟩), wr.heap.size, bo_set1 hBm (some ⟨p, 0, none⟩) (some ⟨q, 0, none⟩), hBo.hi, by have := hbm.size; simp; omega, fun _ => ?_, fun _ => ?_⟩
          · exact (((hpr0 (by omega)).hi hmid).below hbm).set hBm (by have := hBm.hi; have := hBo.hi; omega)
          · have e : ((Wm.setCell ⟨P, 1, none⟩ (.pointer (some ⟨p, 0, none⟩))).setCell ⟨P + 1, 1, none⟩ (.pointer (some ⟨q, 0, none⟩))).heap.size = Wm.heap.size := by simp
            rw [e]
            exact HPr.out.set hBm (by have := hBm.hi; have := hBo.hi; omega)
        case measure => simp [intOf]
    · have p0 := hpr0 (by omega)
      have p1 := hpr1 (by omega)
      have cP0 := cell_of_row _ _ 0 _ _ _ hBo.p
      have cP1 := cell_of_row _ _ 1 _ _ _ hBo.p
      have cQ0 := cell_of_row _ _ 0 _ _ _ hBo.q
      have cQ1 := cell_of_row _ _ 1 _ _ _ hBo.q
      have hbel := hBo.bel
      rcases p0 with ⟨hx0, hy0⟩ | ⟨N, p0, q0, s0, c0, hn, hN1, hN2, hx0, hy0, l0, m0, n0, t0, r0⟩
      · subst hx0 hy0
        clear hpr0 hpr1 p1 hBo
        go_wp2
        go_ret
        exact ⟨rfl, hbel⟩
      · rcases p1 with ⟨hx1, hy1⟩ | ⟨N', p1, q1, s1, c1, hn', hN1', hN2', hx1, hy1, l1, m1, n1, t1, r1⟩
        · subst hx0 hy0 hx1 hy1
          clear hpr0 hpr1 hBo
          go_wp2
          go_ret
          exact ⟨rfl, hbel⟩
        · have hNN : N' = N := by omega
          subst hNN
          have hS := St.start hBo hx0 hy0 hx1 hy1 hN2 l0 m0 n0 l1 m1 t0 r0 t1 r1
          subst hx0 hy0 hx1 hy1
          have HS : Hid _ := hS
          clear hpr0 hpr1 hBo t0 r0 t1 r1 hS hbel HP1 HP2
          go_wp2
          obtain ⟨F, hF⟩ : ∃ F : Fix, F = ⟨P, P + 1, wr.heap.size, fun k => if k = 0 then p0 else p1, fun k => if k = 0 then q0 else q1, fun k => if k = 0 then s0 else s1, fun k => if k = 0 then c0 else c1, wr.heap.size + 1, w.heap.size⟩ := ⟨_, rfl⟩
          have eP : P = F.P := by rw [hF]
          have eY : wr.heap.size = F.Y := by rw [hF]
          have eQ : P + 1 = F.Q := by rw [hF]
          obtain ⟨Wh, hWh⟩ : ∃ Wh : Nat → Int, Wh = fun k => if k = 0 then oA else oB := ⟨_, rfl⟩
          rw [← hF, ← hWh] at HS
          obtain ⟨W2, hW2⟩ : ∃ W2, wr.alloc (.cells #[.slice none 0 0, .slice none 0 0] 35) = W2 := ⟨_, rfl⟩
          rw [hW2] at HS
          have HO : Hid (IsO w ao os) := hO
          have hol := hO.1
          rw [hW2, eY, eQ, eP, show (((0 + 1 + 1 : Nat)) : Int) = 2 from rfl]
          clear hW2 eY eQ eP hF hWh hO cP0 cP1 cQ0 cQ1 hn hn' hN1' hN2' l0 m0 n0 l1 m1 n1
          go_loopw [18, 19, 20, 21, 22, 23, 24, 25, 26, 27, 28, 29] (fun iv _ _ _ _ _ _ _ _ _ _ _ wr => ∃ (i : Nat) (es : Nat → List Sl) (rs : Nat → List En) (LL : Nat → List (List To)), iv = .int .i64 (i : Int) ∧ i ≤ os.length ∧ i ≤ 300 ∧ St w N' Wh F es rs LL (fun _ => False) wr ∧ ∀ k, k < 2 → (LL k).length ≤ i ∧ ∀ l ∈ LL k, l.length ≤ 20) (fun iv _ _ _ _ _ _ _ _ _ _ _ _ => 300 - (intOf iv).toNat)
          case atStart => exact ⟨0, _, _, _, rfl, by omega, by omega, HS.out, fun k _ => ⟨by simp, fun l h => by simp at h⟩⟩
          case round =>
            clear HS
            obtain ⟨i, es, rs, LL, rfl, hio, hi3, hst, hLL⟩ := hrel
            have HLL : Hid (∀ k, k < 2 → (LL k).length ≤ i ∧ ∀ l ∈ LL k, l.length ≤ 20) := hLL
            have HLX : Hid (∀ k, k < 2 → (LL k).length ≤ i + 1 ∧ ∀ l ∈ LL k, l.length ≤ 20) := fun k hk => ⟨by have := (hLL k hk).1; omega, (hLL k hk).2⟩
            clear hLL
            by_cases hend : i < os.length ∧ i < 300
            · have hi1 : (i : Int) < (os.length : Int) := by omega
              have hi2 : (i : Int) < 300 := by omega
              obtain ⟨g, off, rfl, hg, d0, d1, d2, d3, d4, d5, d6⟩ := HO.out.at hend.1
              obtain ⟨hTo, hTb, hwho, hnn, hlb⟩ := HO.out.2.1 os[i] (List.getElem_mem hend.1)
              have cb := fun q => hst.bel.cell (p := ⟨g, off + i * 7 + q, none⟩) hg
              have cb0 := (hst.bel.cell (p := ⟨g, off + i * 7, none⟩) hg).trans d0
              have cb1 := (cb 1).trans d1
              have cb2 := (cb 2).trans d2
              have cb3 := (cb 3).trans d3
              have cb4 := (cb 4).trans d4
              have cb5 := (cb 5).trans d5
              have cb6 := (cb 6).trans d6
              obtain ⟨⟨o0, o1, o2, o3, o4, o5, oa, ock, ol⟩, ho⟩ : ∃ o, os[i] = o := ⟨_, rfl⟩
              rw [ho] at cb0 cb1 cb2 cb3 cb4 cb5 cb6 hTo hTb hwho hnn hlb
              dsimp only at cb0 cb1 cb2 cb3 cb4 cb5 cb6 hTo hTb hwho hnn hlb
              have KC : ∀ w', Calls Try.prog 8 #[.int .i64 o1, .int .i64 2] w' (Chose 2 w') := fun w' => choose_any o1 2 w' (by omega) (by omega) hwho.1 hwho.2
              have HTO : Hid (IsT w oa ol ∧ (ol.length = 0 ∨ ∀ p, oa = some p → p.block < w.heap.size)) := ⟨hTo, hTb⟩
              have HNN : Hid (i64B o3) := hnn
              have HLB : Hid (ol.length * 48 ≤ 140737488355328) := hlb
              have HST : Hid (St w N' Wh F es rs LL (fun _ => False) wr) := hst
              have hend2 : i < 300 := hend.2
              have hend1 : i < os.length := hend.1
              clear d0 d1 d2 d3 d4 d5 d6 cb ho hTo hTb hwho hnn hlb hend hst
              go_upto_region 22 with (go_at_call 8; (with_reducible refine (KC _).mono ?_); rintro e wq ⟨k, rfl, hk2, hwq⟩; rw [hwq])
              obtain ⟨Wb, hWb⟩ : ∃ Wb, wr.alloc (.cells #[.int .i64 o0, .int .i64 o1, .int .i64 o2, .int .i64 o3, .string o4, .bool o5, .slice oa ol.length ock] 38) = Wb := ⟨_, rfl⟩
              rw [hWb]
              have hbb : Below wr.heap.size wr Wb := hWb ▸ (Below.refl _ wr).alloc (Nat.le_refl _) _
              have hbox : Wb.heap[wr.heap.size]? = some (.cells #[.int .i64 o0, .int .i64 o1, .int .i64 o2, .int .i64 o3, .string o4, .bool o5, .slice oa ol.length ock] 38 (0, 0)) := hWb ▸ heap_alloc_new _ _
              have hszb : Wb.heap.size = wr.heap.size + 1 := hWb ▸ (by simp)
              clear hWb cb0 cb1 cb2 cb3 cb4 cb5 cb6 KC
              have HSB : Hid (St w N' Wh F es rs LL (fun g => wr.heap.size ≤ g) Wb) := HST.out.fresh.below hbb
              have cp := HSB.out.pb k hk2
              have cq := HSB.out.qb k hk2
              have hk20 : (k : Int) < 2 := by omega
              have x0 := cell_of_row _ _ 0 _ _ _ hbox
              have x1 := cell_of_row _ _ 1 _ _ _ hbox
              have x2 := cell_of_row _ _ 2 _ _ _ hbox
              have x3 := cell_of_row _ _ 3 _ _ _ hbox
              have x4 := cell_of_row _ _ 4 _ _ _ hbox
              have x5 := cell_of_row _ _ 5 _ _ _ hbox
              have x6 := cell_of_row _ _ 6 _ _ _ hbox
              obtain ⟨BB, hBB⟩ : ∃ BB, wr.heap.size = BB := ⟨_, rfl⟩
              rw [hBB] at x0 x1 x2 x3 x4 x5 x6 hbox hszb HSB ⊢
              have HBB : Hid (wr.heap.size = BB) := hBB
              have hF2 : F.b2 ≤ BB := by have := HST.out.lo; omega
              clear hBB hbb
              go_quiet (fail)
              obtain ⟨Wc, hWc⟩ : ∃ Wc, Wb.drewN nq = Wc := ⟨_, rfl⟩
              rw [hWc]
              have hbc : Below Wb.heap.size Wb Wc := hWc ▸ below_drewN (Below.refl _ _) _
              have HSC : Hid (St w N' Wh F es rs LL (fun g => BB ≤ g) Wc) := HSB.out.below hbc
              have hbox2 := (hbc.block BB (by omega)).trans hbox
              clear hWc cp cq x0 x1 x2 x3 x4 x5 x6
              have x0 := cell_of_row _ _ 0 _ _ _ hbox2
              have x1 := cell_of_row _ _ 1 _ _ _ hbox2
              have x2 := cell_of_row _ _ 2 _ _ _ hbox2
              have x3 := cell_of_row _ _ 3 _ _ _ hbox2
              have x4 := cell_of_row _ _ 4 _ _ _ hbox2
              have x5 := cell_of_row _ _ 5 _ _ _ hbox2
              have x6 := cell_of_row _ _ 6 _ _ _ hbox2
              have hBBc : BB < Wc.heap.size := cell_lt x0
              have HBX : Hid (Wc.heap[BB]? = some (.cells #[.int .i64 o0, .int .i64 o1, .int .i64 o2, .int .i64 o3, .string o4, .bool o5, .slice oa ol.length ock] 38 (0, 0))) := hbox2
              have ords := HSC.out.ords hk2
              have hloY := HSC.out.lo
              have nB1 : BB ≠ F.p k := by omega
              have nB2 : BB ≠ F.s k := by omega
              have nB3 : BB ≠ F.q k := by omega
              have nps : F.p k ≠ F.s k := by omega
              have nqp : F.q k ≠ F.p k := by omega
              have nsp : F.s k ≠ F.p k := by omega
              clear hbox hbox2 hbc hloY ords hszb
              go_step
              go_step
              go_step
              go_cut [] from 78 to 227 (fun wc => ∃ (es' : Nat → List Sl) (rs' : Nat → List En) (LL' : Nat → List (List To)), St w N' Wh F es' rs' LL' (fun _ => False) wc ∧ ∀ j, j < 2 → (LL' j).length ≤ i + 1 ∧ ∀ l ∈ LL' j, l.length ≤ 20)
              case first =>
                by_cases h1 : o0 = 1
                · as_aux_lemma =>
                    have b1 : (o0 == 1) = true := by simp [h1]
                    clear h1
                    have HQS : Hid _ := sim_say (HSC.out.sim k hk2) (Wh k) o2 o4
                    obtain ⟨er, her⟩ : ∃ er, (sayR (Wh k) N' (es k) o2 o4).1 = er := ⟨_, rfl⟩
                    have K9 := fun W' (hT : Tk W' (F.p k) (Wh k) (N' : Int) (es k)) => say_any hT hN2 (HSC.out.sim k hk2).versE o2 o4
                    have K10 := fun W' (hR : Rk W' F.base (F.q k) (F.s k) (F.c k) (Wh k) (rs k)) => say_doc hR (HSC.out.sim k hk2).vers o2 o4
                    rw [her] at K9
                    rw [← HQS.out.1, her] at K10
                    obtain ⟨e', he'⟩ : ∃ e', (sayR (Wh k) N' (es k) o2 o4).2 = e' := ⟨_, rfl⟩
                    obtain ⟨r', hr'⟩ : ∃ r', (sayQ (Wh k) (rs k) o2 o4).2 = r' := ⟨_, rfl⟩
                    rw [he'] at K9
                    rw [hr'] at K10
                    have HSM : Hid (Sim N' e' r') := by (have := HQS.out.2; rw [he', hr'] at this; exact this)
                    have ber : (er != er) = false := by simp
                    have tA := (HSC.out.tk k hk2)
                    have rA := (HSC.out.rk k hk2)
                    have HTA : Hid (Tk Wc (F.p k) (Wh k) (N' : Int) (es k)) := tA
                    have HRA : Hid (Rk Wc F.base (F.q k) (F.s k) (F.c k) (Wh k) (rs k)) := rA
                    have HTD : Hid (Tk Wc.drew (F.p k) (Wh k) (N' : Int) (es k)) := tA.below (Below.refl _ _).drew
                    have HRD : Hid (Rk Wc.drew F.base (F.q k) (F.s k) (F.c k) (Wh k) (rs k)) := rA.below (Below.refl _ _).drew
                    have XK : Hid (∀ W' X, Ko Wc.drew W' X → BB ≠ X → W'.cell? ⟨BB, 2, none⟩ = some (.int .i64 o2) ∧ W'.cell? ⟨BB, 4, none⟩ = some (.string o4)) := fun W' X hk hne => by
                      have g := (hk.2 BB hne hBBc).trans HBX.out
                      exact ⟨cell_of_row _ _ 2 _ _ _ g, cell_of_row _ _ 4 _ _ _ g⟩
                    have XK2 : Hid (∀ W' W'' X Y, Ko Wc.drew W' X → BB ≠ X → Ko W' W'' Y → BB ≠ Y → W''.cell? ⟨BB, 2, none⟩ = some (.int .i64 o2) ∧ W''.cell? ⟨BB, 4, none⟩ = some (.string o4)) := fun W' W'' X Y hk hne hk2 hne2 => by
                      have g := (hk2.2 BB hne2 (Nat.lt_of_lt_of_le hBBc hk.1)).trans ((hk.2 BB hne hBBc).trans HBX.out)
                      exact ⟨cell_of_row _ _ 2 _ _ _ g, cell_of_row _ _ 4 _ _ _ g⟩
                    clear her he' hr' HQS tA rA
                    go_upto_region 25 with fail
                    go_region_held3 (fun W' => W'.cell? ⟨BB, 2, none⟩ = some (.int .i64 o2) ∧ W'.cell? ⟨BB, 4, none⟩ = some (.string o4)) (go_keep) (first
                      | (go_at_call 9; (with_reducible refine (K9 _ HTD.out).mono ?_); rintro e w2 ⟨rfl, T2, k2⟩; have cz := XK.out _ _ k2 nB1; obtain ⟨cz2, cz4⟩ := cz)
                      | (go_at_call 10; (with_reducible refine (K10 _ (HRD.out.ko k2 nqp nsp)).mono ?_); rintro e w3 ⟨rfl, R3, k3⟩; have cy := XK2.out _ _ _ _ k2 nB1 k3 nB2; obtain ⟨cy2, cy4⟩ := cy; have HSX : Hid _ := HSC.out.upd hk2 ((kx_of ((ko_below (Below.refl _ _).drew).trans k2) k3)) (T2.ko k3 nps) R3 HSM.out)
                      | (go_at_call 10; (with_reducible refine (K10 _ HRD.out).mono ?_); rintro e w3 ⟨rfl, R3, k3⟩; have cz := XK.out _ _ k3 nB2; obtain ⟨cz2, cz4⟩ := cz)
                      | (go_at_call 9; (with_reducible refine (K9 _ (HTD.out.ko k3 nps)).mono ?_); rintro e w2 ⟨rfl, T2, k2⟩; have cy := XK2.out _ _ _ _ k3 nB2 k2 nB1; obtain ⟨cy2, cy4⟩ := cy; have HSX : Hid _ := HSC.out.upd hk2 ((kx_of' ((ko_below (Below.refl _ _).drew).trans k3) k2)) T2 (R3.ko k2 nqp nsp) HSM.out))
                    all_goals
                      go_wp2_with fail
                      go_meet
                      case rel => exact ⟨_, _, _, HSX.out.sub (fun _ h => h.elim), HLX.out⟩
                by_cases h2 : o0 = 2
                · as_aux_lemma =>
                    have b1 : (o0 == 1) = false := by simp; omega
                    have b2 : (o0 == 2) = true := by simp [h2]
                    clear h1 h2
                    have hsl : (rs k).length = N' := (HSC.out.sim k hk2).len
                    obtain ⟨L, hL⟩ : ∃ L, toldQ (rs k) = L := ⟨_, rfl⟩
                    have hLn : L.length ≤ 20 := by rw [← hL]; exact Nat.le_trans (toldQ_le _) (by omega)
                    have K11 := take_any (HSC.out.tk k hk2) hN2
                    have K12 := fun W' (hR : Rk W' F.base (F.q k) (F.s k) (F.c k) (Wh k) (rs k)) => take_doc hR (by omega)
                    rw [sim_told (HSC.out.sim k hk2), hL] at K11
                    rw [hL] at K12
                    obtain ⟨e', he'⟩ : ∃ e', takeS N' (es k) = e' := ⟨_, rfl⟩
                    obtain ⟨r', hr'⟩ : ∃ r', (rs k).map calmQ = r' := ⟨_, rfl⟩
                    have HSM : Hid (Sim N' e' r') := by (have := sim_take (HSC.out.sim k hk2); rw [he', hr'] at this; exact this)
                    rw [he'] at K11
                    rw [hr'] at K12
                    have HRA : Hid (Rk Wc F.base (F.q k) (F.s k) (F.c k) (Wh k) (rs k)) := HSC.out.rk k hk2
                    have HPW : Hid (F.p k < Wc.heap.size ∧ F.s k < Wc.heap.size) := by
                      have o := HSC.out.ords hk2
                      have l := HSC.out.lo
                      exact ⟨by omega, by omega⟩
                    obtain ⟨k', hk', hkk, hkw⟩ : ∃ k' : Nat, k' < 2 ∧ k' ≠ k ∧ IntKind.i64.wrap (1 - (k : Int)) = (k' : Int) := ⟨1 - k, by omega, by omega, by rw [wrap_id (by omega) (by omega)]; omega⟩
                    have hk'2 : (k' : Int) < 2 := by omega
                    clear he' hr' hsl hL
                    go_upto_region 31 with (first
                      | (go_at_call 11; (with_reducible refine K11.mono ?_); rintro e w2 ⟨v, rfl, ho2, T2, k2⟩; have ho2b := ho2; obtain ⟨a3, c3, rfl, hi2, ha2⟩ := isT_own ho2b (by omega); have HO2 : Hid (w2.ownsRow Wc.heap.size 44 5 (.slice a3 L.length c3) L.length (tls L)) := ho2; clear ho2 ho2b)
                      | (go_at_call 12; (with_reducible refine (K12 w2 (HRA.out.ko k2 nqp nsp)).mono ?_); rintro e w3 ⟨v, rfl, ho3, R3, k3⟩; obtain ⟨a4, c4, rfl, hi4, ha4⟩ := isT_own ho3 (by omega); have HS3 : Hid _ := HSC.out.upd hk2 (kx_of k2 k3) (T2.ko k3 nps) R3 HSM.out; have HI2 : Hid (IsT w3 a3 L) := hi2.ko k3 (fun p hp => (by have := (ha2 p hp).1; have := HPW.out.2; omega)); have HO3 : Hid (w3.ownsRow Wc.heap.size 44 5 (.slice a3 L.length c3) L.length (tls L)) := own_ko HO2.out k3 HPW.out.2)
                      | (go_at_call 13; (with_reducible refine (same_told HI2.out hi4).mono ?_); rintro e w4 ⟨rfl, hb4⟩; have HS4 : Hid _ := HS3.out.below hb4; have HO4 : Hid (w4.ownsRow Wc.heap.size 44 5 (.slice a3 L.length c3) L.length (tls L)) := own_below HO3.out hb4; have hi44' := hi4.below hb4))
                    obtain ⟨wx, wn, wm, hcY, vs, hwo, hwl, hwi⟩ := HS4.out.wy k' hk'
                    have hwn : wn = (LL k').length := by
                      rcases hwo.2 with ⟨h, h'⟩ | ⟨gg, cap, cur, h, _⟩
                      · simp only [Value.slice.injEq] at h; omega
                      · simp only [Value.slice.injEq] at h; exact h.2.1
                    subst hwn
                    have hfY := HS4.out.yf k'
                    have hLk := (HLL.out k' hk').1
                    obtain ⟨i36, hi36, hz360, hz361, hz362⟩ := info_parts info36
                    have HI4 : Hid (IsT (w4.alloc (.cells #[] 44)).drew a4 L) := (hi44'.below ((Below.refl _ w4).alloc (Nat.le_refl _) _)).below (Below.refl _ _).drew
                    have hYlt : F.Y < w4.heap.size := cell_lt hcY
                    have hb24 : F.b2 ≤ w4.heap.size := HS4.out.lo.2.2.2.2.2.2.2.2.2.2
                    have hYb : F.Y < F.b2 := HS4.out.lo.2.2.2.2.2.2.2.2.2.1
                    have HWI : Hid _ := hwi
                    have HYW : Hid (F.Y < Wc.heap.size) := by (have := HSC.out.lo; show F.Y < Wc.heap.size; omega)
                    have HLP : Hid (∀ j, j < 2 → (Lb.upd LL k' (LL k' ++ [L]) j).length ≤ i + 1 ∧ ∀ l ∈ Lb.upd LL k' (LL k' ++ [L]) j, l.length ≤ 20) := fun j hj => by
                      by_cases e : j = k'
                      · subst e
                        rw [upd_same]
                        refine ⟨by rw [List.length_append]; simp; omega, fun l hl => ?_⟩
                        rcases List.mem_append.1 hl with h | h
                        · exact (HLL.out j hj).2 l h
                        · simp at h; rw [h]; exact hLn
                      · rw [upd_other _ _ e]
                        exact ⟨by have := (HLL.out j hj).1; omega, (HLL.out j hj).2⟩
                    have HWO : Hid (w4.ownsRow F.b2 36 1 (.slice wx (LL k').length wm) (LL k').length vs) := hwo
                    clear hwi hwo x0 x1 x2 x3 x4 x5 x6
                    refine wp_region_held_drew (S := fun _ => True) (by kernel_rfl) (trivial) (fun hHeld => ?_)
                    refine wpAnyH_take (i := 0) (oi := { dst := some 128, op := Op.move (Operand.tmp 20), type := 3, pos := "talk.go:231", after := #[], guard := none }) (v := ?_) rfl (by kernel_rfl) (by kernel_rfl) (by kernel_rfl) (fun _ _ _ h => h) (Or.inl ⟨by rfl, ?_⟩) (by assumption) ?_
                    case refine_2 => intro w hSw; (try dsimp only at hSw); go_simp; (try with_reducible rfl)
                    simp only [Act.put, List.setIfInBounds_toArray, List.set_cons_zero, List.set_cons_succ]
                    refine wpAnyH_take (i := 1) (oi := { dst := some 129, op := Op.binOp BinOp.sub 3 (Operand.const (Value.int IntKind.i64 1)) (Operand.tmp 128) 3, type := 3, pos := "talk.go:231", after := #[{ on := 0, ground := Ground.data }], guard := none }) (v := ?_) rfl (by kernel_rfl) (by kernel_rfl) (by kernel_rfl) (fun _ _ _ h => h) (Or.inl ⟨by rfl, ?_⟩) (by assumption) ?_
                    case refine_2 => intro w hSw; (try dsimp only at hSw); go_simp; (try with_reducible rfl)
                    simp only [Act.put, List.setIfInBounds_toArray, List.set_cons_zero, List.set_cons_succ]
                    refine wpAnyH_take (i := 2) (oi := { dst := some 130, op := Op.move (Operand.tmp 20), type := 3, pos := "talk.go:231", after := #[], guard := none }) (v := ?_) rfl (by kernel_rfl) (by kernel_rfl) (by kernel_rfl) (fun _ _ _ h => h) (Or.inl ⟨by rfl, ?_⟩) (by assumption) ?_
                    case refine_2 => intro w hSw; (try dsimp only at hSw); go_simp; (try with_reducible rfl)
                    simp only [Act.put, List.setIfInBounds_toArray, List.set_cons_zero, List.set_cons_succ]
                    refine wpAnyH_take (i := 3) (oi := { dst := some 131, op := Op.binOp BinOp.sub 3 (Operand.const (Value.int IntKind.i64 1)) (Operand.tmp 130) 3, type := 3, pos := "talk.go:231", after := #[{ on := 2, ground := Ground.data }], guard := none }) (v := ?_) rfl (by kernel_rfl) (by kernel_rfl) (by kernel_rfl) (fun _ _ _ h => h) (Or.inl ⟨by rfl, ?_⟩) (by assumption) ?_
                    case refine_2 => intro w hSw; (try dsimp only at hSw); go_simp; (try with_reducible rfl)
                    simp only [Act.put, List.setIfInBounds_toArray, List.set_cons_zero, List.set_cons_succ]
                    refine wpAnyH_take (i := 4) (oi := { dst := some 132, op := Op.indexAddr 35 (Operand.tmp 17) (Operand.tmp 131), type := 0, pos := "talk.go:231", after := #[{ on := 3, ground := Ground.data }], guard := none }) (v := ?_) rfl (by kernel_rfl) (by kernel_rfl) (by kernel_rfl) (fun _ _ _ h => h) (Or.inl ⟨by rfl, ?_⟩) (by assumption) ?_
                    case refine_2 => intro w hSw; (try dsimp only at hSw); go_simp; (try with_reducible rfl)
                    simp only [Act.put, List.setIfInBounds_toArray, List.set_cons_zero, List.set_cons_succ]
                    refine wpAnyH_take (i := 7) (oi := { dst := some 135, op := Op.move (Operand.tmp 24), type := 36, pos := "talk.go:231", after := #[], guard := none }) (v := ?_) rfl (by kernel_rfl) (by kernel_rfl) (by kernel_rfl) (fun _ _ _ h => h) (Or.inl ⟨by rfl, ?_⟩) (by assumption) ?_
                    case refine_2 => intro w hSw; (try dsimp only at hSw); go_simp; (try with_reducible rfl)
                    simp only [Act.put, List.setIfInBounds_toArray, List.set_cons_zero, List.set_cons_succ]
                    refine wpAnyH_ready (rs := [5, 6]) (by kernel_rfl) (by simp) ?_
                    refine (AllReadyH.cons (o := { dst := some 133, op := Op.load 34 (Operand.tmp 132), type := 34, pos := "talk.go:231", after := #[{ on := 4, ground := Ground.data }], guard := none }) rfl (fun K hK => ?_) (AllReadyH.cons (o := { dst := some 134, op := Op.buildSlice 36 0 #[], type := 36, pos := "talk.go:231", after := #[], guard := none }) rfl (fun K hK => ?_) AllReadyH.nil))
                    · skip
                      go_simp
                      refine hK.out _ _ ?_ (fun hHeld => ?_)
                      · exact trivial
                      clear hK K
                      try simp only [Act.put, List.setIfInBounds_toArray, List.set_cons_zero, List.set_cons_succ]
                      refine wpAnyH_ready (rs := [6]) (by kernel_rfl) (by simp) ?_
                      refine (AllReadyH.cons (o := { dst := some 134, op := Op.buildSlice 36 0 #[], type := 36, pos := "talk.go:231", after := #[], guard := none }) rfl (fun K hK => ?_) AllReadyH.nil)
                      go_simp
                      refine hK.out _ _ ?_ (fun hHeld => ?_)
                      · exact trivial
                      clear hK K
                      try simp only [Act.put, List.setIfInBounds_toArray, List.set_cons_zero, List.set_cons_succ]
                      refine wpAnyH_ready (rs := [8]) (by kernel_rfl) (by simp) ?_
                      refine (AllReadyH.cons (o := { dst := some 136, op := Op.call { callee := Callee.builtin Builtin.append, args := #[Operand.tmp 134, Operand.tmp 135], argTypes := #[36, 36] }, type := 36, pos := "talk.go:231", after := #[{ on := 6, ground := Ground.data }, { on := 7, ground := Ground.data }], guard := none }) rfl (fun K hK => ?_) AllReadyH.nil)
                      refine step_app _ rfl (.tmp 134) (.tmp 135) rfl w4.heap.size (.slice (some ⟨w4.heap.size, 0, none⟩) 0 0) 0 [] rfl (own_empty w4 w4.heap.size (Nat.le_refl _)).drew a4 c4 L rfl HI4.out (by unfold maxLen; omega) (by omega) (by simp) ?_
                      intro v5 W5 ho5 hg5
                      obtain ⟨a5, c5, rfl, hoc5, hi5, hb5⟩ := copy_own' ho5 hg5 (by omega)
                      have cY5 := (hb5.cell (p := ⟨F.Y, k', none⟩) hYlt).trans hcY
                      have hYlt5 : F.Y < W5.heap.size := cell_lt cY5
                      have ow5 := own_below HWO.out hb5
                      clear ho5 hg5 hi5
                      refine hK.out _ _ ?_ (fun hHeld => ?_)
                      · exact trivial
                      clear hK K
                      try simp only [Act.put, List.setIfInBounds_toArray, List.set_cons_zero, List.set_cons_succ]
                      refine wpAnyH_ready (rs := [9]) (by kernel_rfl) (by simp) ?_
                      refine (AllReadyH.cons (o := { dst := some 137, op := Op.buildSlice 34 1 #[(0, Operand.tmp 136)], type := 34, pos := "talk.go:231", after := #[{ on := 8, ground := Ground.data }], guard := none }) rfl (fun K hK => ?_) AllReadyH.nil)
                      go_simp
                      refine hK.out _ _ ?_ (fun hHeld => ?_)
                      · exact trivial
                      clear hK K
                      try simp only [Act.put, List.setIfInBounds_toArray, List.set_cons_zero, List.set_cons_succ]
                      refine wpAnyH_ready (rs := [10]) (by kernel_rfl) (by simp) ?_
                      refine (AllReadyH.cons (o := { dst := some 138, op := Op.call { callee := Callee.builtin Builtin.append, args := #[Operand.tmp 133, Operand.tmp 137], argTypes := #[34, 34] }, type := 34, pos := "talk.go:231", after := #[{ on := 5, ground := Ground.data }, { on := 9, ground := Ground.data }, { on := 8, ground := Ground.chain }], guard := none }) rfl (fun K hK => ?_) AllReadyH.nil)
                      refine step_append_at rfl (.tmp 133) (.tmp 137) 34 rfl F.b2 36 i36 (.slice none 0 0) 1 24 Try.underlying34 hi36 hz360 hz361 hz362 rfl (by decide) (.slice wx (LL k').length wm) _ _ rfl (ow5.alloc _) ⟨_, 0, none⟩ 1 1 [.slice a5 L.length c5] rfl rfl (cell_sl _ _ rfl _) (by simp [Value.oneCell']) (by unfold maxLen; omega) (by omega) (by have := hb5.size; simp; omega) ?_
                      intro v6 W6 ho6 hg6 hat6
                      obtain ⟨g6, c6, rfl, hg6b⟩ := slice_of1 ho6
                      have hb6 : Below F.b2 W5 W6 := ((Below.refl _ W5).alloc (by have := hb5.size; omega) _).grown hg6 (by have := hb5.size; simp; omega) (fun q hq => (HWO.out.lt q hq).1)
                      have cY6 := (hb6.cell (p := ⟨F.Y, k', none⟩) hYb).trans cY5
                      have fY6 : W6.frozen? ⟨F.Y, k', none⟩ = false := (frozen_same (hb6.block F.Y hYb)).trans ((frozen_same (hb5.block F.Y hYlt)).trans hfY)
                      have HSX : Hid _ := HS4.out.push hk' hcY HWO.out hwl HWI.out hoc5 hb5 ho6 hg6 hat6
                      have HOX : Hid (Own Wc.heap.size a3 L.length c3 (W6.setCell ⟨F.Y, k', none⟩ (.slice (some ⟨g6, 0, none⟩) ((LL k').length + 1) c6))) := ⟨_, own_pushed HO4.out HWO.out hb5 hg6 HYW.out⟩
                      refine hK.out _ _ ?_ (fun hHeld => ?_)
                      · exact trivial
                      clear hK K
                      try simp only [Act.put, List.setIfInBounds_toArray, List.set_cons_zero, List.set_cons_succ]
                      refine wpAnyH_take (i := 11) (oi := { dst := some 139, op := Op.indexAddr 35 (Operand.tmp 17) (Operand.tmp 129), type := 0, pos := "talk.go:231", after := #[{ on := 1, ground := Ground.data }, { on := 0, ground := Ground.phase }, { on := 1, ground := Ground.phase }, { on := 2, ground := Ground.phase }, { on := 3, ground := Ground.phase }, { on := 4, ground := Ground.phase }, { on := 5, ground := Ground.phase }, { on := 6, ground := Ground.phase }, { on := 7, ground := Ground.phase }, { on := 8, ground := Ground.phase }, { on := 9, ground := Ground.phase }, { on := 10, ground := Ground.phase }], guard := none }) (v := ?_) rfl (by kernel_rfl) (by kernel_rfl) (by kernel_rfl) (fun _ _ _ h => h) (Or.inl ⟨by rfl, ?_⟩) (by assumption) ?_
                      case refine_2 => intro w hSw; (try dsimp only at hSw); go_simp; (try with_reducible rfl)
                      simp only [Act.put, List.setIfInBounds_toArray, List.set_cons_zero, List.set_cons_succ]
                      refine wpAnyH_ready (rs := [12]) (by kernel_rfl) (by simp) ?_
                      refine (AllReadyH.cons (o := { dst := none, op := Op.store 34 (Operand.tmp 139) (Operand.tmp 138), type := 0, pos := "talk.go:231", after := #[{ on := 11, ground := Ground.data }, { on := 10, ground := Ground.data }, { on := 10, ground := Ground.chain }, { on := 0, ground := Ground.phase }, { on := 1, ground := Ground.phase }, { on := 2, ground := Ground.phase }, { on := 3, ground := Ground.phase }, { on := 4, ground := Ground.phase }, { on := 5, ground := Ground.phase }, { on := 6, ground := Ground.phase }, { on := 7, ground := Ground.phase }, { on := 8, ground := Ground.phase }, { on := 9, ground := Ground.phase }, { on := 10, ground := Ground.phase }], guard := none }) rfl (fun K hK => ?_) AllReadyH.nil)
                      go_simp
                      refine hK.out _ _ ?_ (fun hHeld => ?_)
                      · exact trivial
                      clear hK K
                      try simp only [Act.put, List.setIfInBounds_toArray, List.set_cons_zero, List.set_cons_succ]
                      refine wpAnyH_done (by kernel_rfl) ?_ _
                      have HLX : Hid (∀ j, j < 2 → (Lb.upd LL k' (LL k' ++ [L]) j).length ≤ i + 1 ∧ ∀ l ∈ Lb.upd LL k' (LL k' ++ [L]) j, l.length ≤ 20) := HLP.out
                      clear hb5 hb6 hg6 hat6 ho6 ow5 hoc5 cY5 cY6 fY6 hg6b hcY hfY
                      have hbnd : L.length ≤ 140737488355328 := (by omega)
                      go_wp2_with fail
                      go_loopw [25] (fun jv wr => ∃ j : Nat, jv = .int .i64 (j : Int) ∧ j ≤ L.length ∧ St w N' Wh F (Lb.upd es k e') (Lb.upd rs k r') (Lb.upd LL k' (LL k' ++ [L])) (fun g => BB ≤ g ∧ g < w4.heap.size) wr ∧ Own Wc.heap.size a3 L.length c3 wr) (fun jv _ => L.length - (intOf jv).toNat)
                      case atStart => exact ⟨0, rfl, by omega, HSX.out, HOX.out⟩
                      case round =>
                        clear HSX HOX
                        obtain ⟨j, rfl, hj, hsj, hoj⟩ := hrel
                        by_cases hjl : j < L.length
                        · have hjl' : (j : Int) < (L.length : Int) := by omega
                          obtain ⟨gl, y0, y1, y2, y3, y4, rfl, hgl, z0, z1, z2, z3, z4, fz, cur, hcur⟩ := hoj.at hjl
                          have HSJ : Hid _ := hsj
                          have HOJ : Hid (Own Wc.heap.size (some ⟨gl, 0, none⟩) L.length c3 wr) := hoj
                          have hBg : BB ≤ gl := by omega
                          have hb2g : F.b2 ≤ gl := by omega
                          clear hsj hoj
                          go_wp2
                          go_roundw
                          case rel => exact ⟨j + 1, by go_num, by omega, HSJ.out.zero (cur := cur) (((((ko_set _ gl _ _).trans (ko_set _ gl _ _)).trans (ko_set _ gl _ _)).trans (ko_set _ gl _ _)).trans (ko_set _ gl _ _)) ⟨hBg, (HO4.out.lt gl rfl).2⟩ hcur hb2g, ((((HOJ.out.set _ _).set _ _).set _ _).set _ _).set _ _⟩
                          case measure => simp [intOf]; omega
                        · have hjl' : ¬ (j : Int) < (L.length : Int) := by omega
                          have HSX : Hid _ := hsj
                          clear hsj hoj
                          go_wp2_with fail
                          go_meet
                          case rel => exact ⟨_, _, _, HSX.out.sub (fun _ h => h.elim), HLX.out⟩
                    · skip
                      go_simp
                      refine hK.out _ _ ?_ (fun hHeld => ?_)
                      · exact trivial
                      clear hK K
                      try simp only [Act.put, List.setIfInBounds_toArray, List.set_cons_zero, List.set_cons_succ]
                      refine wpAnyH_ready (rs := [5, 8]) (by kernel_rfl) (by simp) ?_
                      refine (AllReadyH.cons (o := { dst := some 133, op := Op.load 34 (Operand.tmp 132), type := 34, pos := "talk.go:231", after := #[{ on := 4, ground := Ground.data }], guard := none }) rfl (fun K hK => ?_) (AllReadyH.cons (o := { dst := some 136, op := Op.call { callee := Callee.builtin Builtin.append, args := #[Operand.tmp 134, Operand.tmp 135], argTypes := #[36, 36] }, type := 36, pos := "talk.go:231", after := #[{ on := 6, ground := Ground.data }, { on := 7, ground := Ground.data }], guard := none }) rfl (fun K hK => ?_) AllReadyH.nil))
                      · skip
                        go_simp
                        refine hK.out _ _ ?_ (fun hHeld => ?_)
                        · exact trivial
                        clear hK K
                        try simp only [Act.put, List.setIfInBounds_toArray, List.set_cons_zero, List.set_cons_succ]
                        refine wpAnyH_ready (rs := [8]) (by kernel_rfl) (by simp) ?_
                        refine (AllReadyH.cons (o := { dst := some 136, op := Op.call { callee := Callee.builtin Builtin.append, args := #[Operand.tmp 134, Operand.tmp 135], argTypes := #[36, 36] }, type := 36, pos := "talk.go:231", after := #[{ on := 6, ground := Ground.data }, { on := 7, ground := Ground.data }], guard := none }) rfl (fun K hK => ?_) AllReadyH.nil)
                        refine step_app _ rfl (.tmp 134) (.tmp 135) rfl w4.heap.size (.slice (some ⟨w4.heap.size, 0, none⟩) 0 0) 0 [] rfl (own_empty w4 w4.heap.size (Nat.le_refl _)).drew a4 c4 L rfl HI4.out (by unfold maxLen; omega) (by omega) (by simp) ?_
                        intro v5 W5 ho5 hg5
                        obtain ⟨a5, c5, rfl, hoc5, hi5, hb5⟩ := copy_own' ho5 hg5 (by omega)
                        have cY5 := (hb5.cell (p := ⟨F.Y, k', none⟩) hYlt).trans hcY
                        have hYlt5 : F.Y < W5.heap.size := cell_lt cY5
                        have ow5 := own_below HWO.out hb5
                        clear ho5 hg5 hi5
                        refine hK.out _ _ ?_ (fun hHeld => ?_)
                        · exact trivial
                        clear hK K
                        try simp only [Act.put, List.setIfInBounds_toArray, List.set_cons_zero, List.set_cons_succ]
                        refine wpAnyH_ready (rs := [9]) (by kernel_rfl) (by simp) ?_
                        refine (AllReadyH.cons (o := { dst := some 137, op := Op.buildSlice 34 1 #[(0, Operand.tmp 136)], type := 34, pos := "talk.go:231", after := #[{ on := 8, ground := Ground.data }], guard := none }) rfl (fun K hK => ?_) AllReadyH.nil)
                        go_simp
                        refine hK.out _ _ ?_ (fun hHeld => ?_)
                        · exact trivial
                        clear hK K
                        try simp only [Act.put, List.setIfInBounds_toArray, List.set_cons_zero, List.set_cons_succ]
                        refine wpAnyH_ready (rs := [10]) (by kernel_rfl) (by simp) ?_
                        refine (AllReadyH.cons (o := { dst := some 138, op := Op.call { callee := Callee.builtin Builtin.append, args := #[Operand.tmp 133, Operand.tmp 137], argTypes := #[34, 34] }, type := 34, pos := "talk.go:231", after := #[{ on := 5, ground := Ground.data }, { on := 9, ground := Ground.data }, { on := 8, ground := Ground.chain }], guard := none }) rfl (fun K hK => ?_) AllReadyH.nil)
                        refine step_append_at rfl (.tmp 133) (.tmp 137) 34 rfl F.b2 36 i36 (.slice none 0 0) 1 24 Try.underlying34 hi36 hz360 hz361 hz362 rfl (by decide) (.slice wx (LL k').length wm) _ _ rfl (ow5.alloc _) ⟨_, 0, none⟩ 1 1 [.slice a5 L.length c5] rfl rfl (cell_sl _ _ rfl _) (by simp [Value.oneCell']) (by unfold maxLen; omega) (by omega) (by have := hb5.size; simp; omega) ?_
                        intro v6 W6 ho6 hg6 hat6
                        obtain ⟨g6, c6, rfl, hg6b⟩ := slice_of1 ho6
                        have hb6 : Below F.b2 W5 W6 := ((Below.refl _ W5).alloc (by have := hb5.size; omega) _).grown hg6 (by have := hb5.size; simp; omega) (fun q hq => (HWO.out.lt q hq).1)
                        have cY6 := (hb6.cell (p := ⟨F.Y, k', none⟩) hYb).trans cY5
                        have fY6 : W6.frozen? ⟨F.Y, k', none⟩ = false := (frozen_same (hb6.block F.Y hYb)).trans ((frozen_same (hb5.block F.Y hYlt)).trans hfY)
                        have HSX : Hid _ := HS4.out.push hk' hcY HWO.out hwl HWI.out hoc5 hb5 ho6 hg6 hat6
                        have HOX : Hid (Own Wc.heap.size a3 L.length c3 (W6.setCell ⟨F.Y, k', none⟩ (.slice (some ⟨g6, 0, none⟩) ((LL k').length + 1) c6))) := ⟨_, own_pushed HO4.out HWO.out hb5 hg6 HYW.out⟩
                        refine hK.out _ _ ?_ (fun hHeld => ?_)
                        · exact trivial
                        clear hK K
                        try simp only [Act.put, List.setIfInBounds_toArray, List.set_cons_zero, List.set_cons_succ]
                        refine wpAnyH_take (i := 11) (oi := { dst := some 139, op := Op.indexAddr 35 (Operand.tmp 17) (Operand.tmp 129), type := 0, pos := "talk.go:231", after := #[{ on := 1, ground := Ground.data }, { on := 0, ground := Ground.phase }, { on := 1, ground := Ground.phase }, { on := 2, ground := Ground.phase }, { on := 3, ground := Ground.phase }, { on := 4, ground := Ground.phase }, { on := 5, ground := Ground.phase }, { on := 6, ground := Ground.phase }, { on := 7, ground := Ground.phase }, { on := 8, ground := Ground.phase }, { on := 9, ground := Ground.phase }, { on := 10, ground := Ground.phase }], guard := none }) (v := ?_) rfl (by kernel_rfl) (by kernel_rfl) (by kernel_rfl) (fun _ _ _ h => h) (Or.inl ⟨by rfl, ?_⟩) (by assumption) ?_
                        case refine_2 => intro w hSw; (try dsimp only at hSw); go_simp; (try with_reducible rfl)
                        simp only [Act.put, List.setIfInBounds_toArray, List.set_cons_zero, List.set_cons_succ]
                        refine wpAnyH_ready (rs := [12]) (by kernel_rfl) (by simp) ?_
                        refine (AllReadyH.cons (o := { dst := none, op := Op.store 34 (Operand.tmp 139) (Operand.tmp 138), type := 0, pos := "talk.go:231", after := #[{ on := 11, ground := Ground.data }, { on := 10, ground := Ground.data }, { on := 10, ground := Ground.chain }, { on := 0, ground := Ground.phase }, { on := 1, ground := Ground.phase }, { on := 2, ground := Ground.phase }, { on := 3, ground := Ground.phase }, { on := 4, ground := Ground.phase }, { on := 5, ground := Ground.phase }, { on := 6, ground := Ground.phase }, { on := 7, ground := Ground.phase }, { on := 8, ground := Ground.phase }, { on := 9, ground := Ground.phase }, { on := 10, ground := Ground.phase }], guard := none }) rfl (fun K hK => ?_) AllReadyH.nil)
                        go_simp
                        refine hK.out _ _ ?_ (fun hHeld => ?_)
                        · exact trivial
                        clear hK K
                        try simp only [Act.put, List.setIfInBounds_toArray, List.set_cons_zero, List.set_cons_succ]
                        refine wpAnyH_done (by kernel_rfl) ?_ _
                        have HLX : Hid (∀ j, j < 2 → (Lb.upd LL k' (LL k' ++ [L]) j).length ≤ i + 1 ∧ ∀ l ∈ Lb.upd LL k' (LL k' ++ [L]) j, l.length ≤ 20) := HLP.out
                        clear hb5 hb6 hg6 hat6 ho6 ow5 hoc5 cY5 cY6 fY6 hg6b hcY hfY
                        have hbnd : L.length ≤ 140737488355328 := (by omega)
                        go_wp2_with fail
                        go_loopw [25] (fun jv wr => ∃ j : Nat, jv = .int .i64 (j : Int) ∧ j ≤ L.length ∧ St w N' Wh F (Lb.upd es k e') (Lb.upd rs k r') (Lb.upd LL k' (LL k' ++ [L])) (fun g => BB ≤ g ∧ g < w4.heap.size) wr ∧ Own Wc.heap.size a3 L.length c3 wr) (fun jv _ => L.length - (intOf jv).toNat)
                        case atStart => exact ⟨0, rfl, by omega, HSX.out, HOX.out⟩
                        case round =>
                          clear HSX HOX
                          obtain ⟨j, rfl, hj, hsj, hoj⟩ := hrel
                          by_cases hjl : j < L.length
                          · have hjl' : (j : Int) < (L.length : Int) := by omega
                            obtain ⟨gl, y0, y1, y2, y3, y4, rfl, hgl, z0, z1, z2, z3, z4, fz, cur, hcur⟩ := hoj.at hjl
                            have HSJ : Hid _ := hsj
                            have HOJ : Hid (Own Wc.heap.size (some ⟨gl, 0, none⟩) L.length c3 wr) := hoj
                            have hBg : BB ≤ gl := by omega
                            have hb2g : F.b2 ≤ gl := by omega
                            clear hsj hoj
                            go_wp2
                            go_roundw
                            case rel => exact ⟨j + 1, by go_num, by omega, HSJ.out.zero (cur := cur) (((((ko_set _ gl _ _).trans (ko_set _ gl _ _)).trans (ko_set _ gl _ _)).trans (ko_set _ gl _ _)).trans (ko_set _ gl _ _)) ⟨hBg, (HO4.out.lt gl rfl).2⟩ hcur hb2g, ((((HOJ.out.set _ _).set _ _).set _ _).set _ _).set _ _⟩
                            case measure => simp [intOf]; omega
                          · have hjl' : ¬ (j : Int) < (L.length : Int) := by omega
                            have HSX : Hid _ := hsj
                            clear hsj hoj
                            go_wp2_with fail
                            go_meet
                            case rel => exact ⟨_, _, _, HSX.out.sub (fun _ h => h.elim), HLX.out⟩
                      · skip
                        refine step_app _ rfl (.tmp 134) (.tmp 135) rfl w4.heap.size (.slice (some ⟨w4.heap.size, 0, none⟩) 0 0) 0 [] rfl (own_empty w4 w4.heap.size (Nat.le_refl _)).drew a4 c4 L rfl HI4.out (by unfold maxLen; omega) (by omega) (by simp) ?_
                        intro v5 W5 ho5 hg5
                        obtain ⟨a5, c5, rfl, hoc5, hi5, hb5⟩ := copy_own' ho5 hg5 (by omega)
                        have cY5 := (hb5.cell (p := ⟨F.Y, k', none⟩) hYlt).trans hcY
                        have hYlt5 : F.Y < W5.heap.size := cell_lt cY5
                        have ow5 := own_below HWO.out hb5
                        clear ho5 hg5 hi5
                        refine hK.out _ _ ?_ (fun hHeld => ?_)
                        · exact trivial
                        clear hK K
                        try simp only [Act.put, List.setIfInBounds_toArray, List.set_cons_zero, List.set_cons_succ]
                        refine wpAnyH_ready (rs := [5, 9]) (by kernel_rfl) (by simp) ?_
                        refine (AllReadyH.cons (o := { dst := some 133, op := Op.load 34 (Operand.tmp 132), type := 34, pos := "talk.go:231", after := #[{ on := 4, ground := Ground.data }], guard := none }) rfl (fun K hK => ?_) (AllReadyH.cons (o := { dst := some 137, op := Op.buildSlice 34 1 #[(0, Operand.tmp 136)], type := 34, pos := "talk.go:231", after := #[{ on := 8, ground := Ground.data }], guard := none }) rfl (fun K hK => ?_) AllReadyH.nil))
                        · skip
                          go_simp
                          refine hK.out _ _ ?_ (fun hHeld => ?_)
                          · exact trivial
                          clear hK K
                          try simp only [Act.put, List.setIfInBounds_toArray, List.set_cons_zero, List.set_cons_succ]
                          refine wpAnyH_ready (rs := [9]) (by kernel_rfl) (by simp) ?_
                          refine (AllReadyH.cons (o := { dst := some 137, op := Op.buildSlice 34 1 #[(0, Operand.tmp 136)], type := 34, pos := "talk.go:231", after := #[{ on := 8, ground := Ground.data }], guard := none }) rfl (fun K hK => ?_) AllReadyH.nil)
                          go_simp
                          refine hK.out _ _ ?_ (fun hHeld => ?_)
                          · exact trivial
                          clear hK K
                          try simp only [Act.put, List.setIfInBounds_toArray, List.set_cons_zero, List.set_cons_succ]
                          refine wpAnyH_ready (rs := [10]) (by kernel_rfl) (by simp) ?_
                          refine (AllReadyH.cons (o := { dst := some 138, op := Op.call { callee := Callee.builtin Builtin.append, args := #[Operand.tmp 133, Operand.tmp 137], argTypes := #[34, 34] }, type := 34, pos := "talk.go:231", after := #[{ on := 5, ground := Ground.data }, { on := 9, ground := Ground.data }, { on := 8, ground := Ground.chain }], guard := none }) rfl (fun K hK => ?_) AllReadyH.nil)
                          refine step_append_at rfl (.tmp 133) (.tmp 137) 34 rfl F.b2 36 i36 (.slice none 0 0) 1 24 Try.underlying34 hi36 hz360 hz361 hz362 rfl (by decide) (.slice wx (LL k').length wm) _ _ rfl (ow5.alloc _) ⟨_, 0, none⟩ 1 1 [.slice a5 L.length c5] rfl rfl (cell_sl _ _ rfl _) (by simp [Value.oneCell']) (by unfold maxLen; omega) (by omega) (by have := hb5.size; simp; omega) ?_
                          intro v6 W6 ho6 hg6 hat6
                          obtain ⟨g6, c6, rfl, hg6b⟩ := slice_of1 ho6
                          have hb6 : Below F.b2 W5 W6 := ((Below.refl _ W5).alloc (by have := hb5.size; omega) _).grown hg6 (by have := hb5.size; simp; omega) (fun q hq => (HWO.out.lt q hq).1)
                          have cY6 := (hb6.cell (p := ⟨F.Y, k', none⟩) hYb).trans cY5
                          have fY6 : W6.frozen? ⟨F.Y, k', none⟩ = false := (frozen_same (hb6.block F.Y hYb)).trans ((frozen_same (hb5.block F.Y hYlt)).trans hfY)
                          have HSX : Hid _ := HS4.out.push hk' hcY HWO.out hwl HWI.out hoc5 hb5 ho6 hg6 hat6
                          have HOX : Hid (Own Wc.heap.size a3 L.length c3 (W6.setCell ⟨F.Y, k', none⟩ (.slice (some ⟨g6, 0, none⟩) ((LL k').length + 1) c6))) := ⟨_, own_pushed HO4.out HWO.out hb5 hg6 HYW.out⟩
                          refine hK.out _ _ ?_ (fun hHeld => ?_)
                          · exact trivial
                          clear hK K
                          try simp only [Act.put, List.setIfInBounds_toArray, List.set_cons_zero, List.set_cons_succ]
                          refine wpAnyH_take (i := 11) (oi := { dst := some 139, op := Op.indexAddr 35 (Operand.tmp 17) (Operand.tmp 129), type := 0, pos := "talk.go:231", after := #[{ on := 1, ground := Ground.data }, { on := 0, ground := Ground.phase }, { on := 1, ground := Ground.phase }, { on := 2, ground := Ground.phase }, { on := 3, ground := Ground.phase }, { on := 4, ground := Ground.phase }, { on := 5, ground := Ground.phase }, { on := 6, ground := Ground.phase }, { on := 7, ground := Ground.phase }, { on := 8, ground := Ground.phase }, { on := 9, ground := Ground.phase }, { on := 10, ground := Ground.phase }], guard := none }) (v := ?_) rfl (by kernel_rfl) (by kernel_rfl) (by kernel_rfl) (fun _ _ _ h => h) (Or.inl ⟨by rfl, ?_⟩) (by assumption) ?_
                          case refine_2 => intro w hSw; (try dsimp only at hSw); go_simp; (try with_reducible rfl)
                          simp only [Act.put, List.setIfInBounds_toArray, List.set_cons_zero, List.set_cons_succ]
                          refine wpAnyH_ready (rs := [12]) (by kernel_rfl) (by simp) ?_
                          refine (AllReadyH.cons (o := { dst := none, op := Op.store 34 (Operand.tmp 139) (Operand.tmp 138), type := 0, pos := "talk.go:231", after := #[{ on := 11, ground := Ground.data }, { on := 10, ground := Ground.data }, { on := 10, ground := Ground.chain }, { on := 0, ground := Ground.phase }, { on := 1, ground := Ground.phase }, { on := 2, ground := Ground.phase }, { on := 3, ground := Ground.phase }, { on := 4, ground := Ground.phase }, { on := 5, ground := Ground.phase }, { on := 6, ground := Ground.phase }, { on := 7, ground := Ground.phase }, { on := 8, ground := Ground.phase }, { on := 9, ground := Ground.phase }, { on := 10, ground := Ground.phase }], guard := none }) rfl (fun K hK => ?_) AllReadyH.nil)
                          go_simp
                          refine hK.out _ _ ?_ (fun hHeld => ?_)
                          · exact trivial
                          clear hK K
                          try simp only [Act.put, List.setIfInBounds_toArray, List.set_cons_zero, List.set_cons_succ]
                          refine wpAnyH_done (by kernel_rfl) ?_ _
                          have HLX : Hid (∀ j, j < 2 → (Lb.upd LL k' (LL k' ++ [L]) j).length ≤ i + 1 ∧ ∀ l ∈ Lb.upd LL k' (LL k' ++ [L]) j, l.length ≤ 20) := HLP.out
                          clear hb5 hb6 hg6 hat6 ho6 ow5 hoc5 cY5 cY6 fY6 hg6b hcY hfY
                          have hbnd : L.length ≤ 140737488355328 := (by omega)
                          go_wp2_with fail
                          go_loopw [25] (fun jv wr => ∃ j : Nat, jv = .int .i64 (j : Int) ∧ j ≤ L.length ∧ St w N' Wh F (Lb.upd es k e') (Lb.upd rs k r') (Lb.upd LL k' (LL k' ++ [L])) (fun g => BB ≤ g ∧ g < w4.heap.size) wr ∧ Own Wc.heap.size a3 L.length c3 wr) (fun jv _ => L.length - (intOf jv).toNat)
                          case atStart => exact ⟨0, rfl, by omega, HSX.out, HOX.out⟩
                          case round =>
                            clear HSX HOX
                            obtain ⟨j, rfl, hj, hsj, hoj⟩ := hrel
                            by_cases hjl : j < L.length
                            · have hjl' : (j : Int) < (L.length : Int) := by omega
                              obtain ⟨gl, y0, y1, y2, y3, y4, rfl, hgl, z0, z1, z2, z3, z4, fz, cur, hcur⟩ := hoj.at hjl
                              have HSJ : Hid _ := hsj
                              have HOJ : Hid (Own Wc.heap.size (some ⟨gl, 0, none⟩) L.length c3 wr) := hoj
                              have hBg : BB ≤ gl := by omega
                              have hb2g : F.b2 ≤ gl := by omega
                              clear hsj hoj
                              go_wp2
                              go_roundw
                              case rel => exact ⟨j + 1, by go_num, by omega, HSJ.out.zero (cur := cur) (((((ko_set _ gl _ _).trans (ko_set _ gl _ _)).trans (ko_set _ gl _ _)).trans (ko_set _ gl _ _)).trans (ko_set _ gl _ _)) ⟨hBg, (HO4.out.lt gl rfl).2⟩ hcur hb2g, ((((HOJ.out.set _ _).set _ _).set _ _).set _ _).set _ _⟩
                              case measure => simp [intOf]; omega
                            · have hjl' : ¬ (j : Int) < (L.length : Int) := by omega
                              have HSX : Hid _ := hsj
                              clear hsj hoj
                              go_wp2_with fail
                              go_meet
                              case rel => exact ⟨_, _, _, HSX.out.sub (fun _ h => h.elim), HLX.out⟩
                        · skip
                          go_simp
                          refine hK.out _ _ ?_ (fun hHeld => ?_)
                          · exact trivial
                          clear hK K
                          try simp only [Act.put, List.setIfInBounds_toArray, List.set_cons_zero, List.set_cons_succ]
                          refine wpAnyH_ready (rs := [5]) (by kernel_rfl) (by simp) ?_
                          refine (AllReadyH.cons (o := { dst := some 133, op := Op.load 34 (Operand.tmp 132), type := 34, pos := "talk.go:231", after := #[{ on := 4, ground := Ground.data }], guard := none }) rfl (fun K hK => ?_) AllReadyH.nil)
                          go_simp
                          refine hK.out _ _ ?_ (fun hHeld => ?_)
                          · exact trivial
                          clear hK K
                          try simp only [Act.put, List.setIfInBounds_toArray, List.set_cons_zero, List.set_cons_succ]
                          refine wpAnyH_ready (rs := [10]) (by kernel_rfl) (by simp) ?_
                          refine (AllReadyH.cons (o := { dst := some 138, op := Op.call { callee := Callee.builtin Builtin.append, args := #[Operand.tmp 133, Operand.tmp 137], argTypes := #[34, 34] }, type := 34, pos := "talk.go:231", after := #[{ on := 5, ground := Ground.data }, { on := 9, ground := Ground.data }, { on := 8, ground := Ground.chain }], guard := none }) rfl (fun K hK => ?_) AllReadyH.nil)
                          refine step_append_at rfl (.tmp 133) (.tmp 137) 34 rfl F.b2 36 i36 (.slice none 0 0) 1 24 Try.underlying34 hi36 hz360 hz361 hz362 rfl (by decide) (.slice wx (LL k').length wm) _ _ rfl (ow5.alloc _) ⟨_, 0, none⟩ 1 1 [.slice a5 L.length c5] rfl rfl (cell_sl _ _ rfl _) (by simp [Value.oneCell']) (by unfold maxLen; omega) (by omega) (by have := hb5.size; simp; omega) ?_
                          intro v6 W6 ho6 hg6 hat6
                          obtain ⟨g6, c6, rfl, hg6b⟩ := slice_of1 ho6
                          have hb6 : Below F.b2 W5 W6 := ((Below.refl _ W5).alloc (by have := hb5.size; omega) _).grown hg6 (by have := hb5.size; simp; omega) (fun q hq => (HWO.out.lt q hq).1)
                          have cY6 := (hb6.cell (p := ⟨F.Y, k', none⟩) hYb).trans cY5
                          have fY6 : W6.frozen? ⟨F.Y, k', none⟩ = false := (frozen_same (hb6.block F.Y hYb)).trans ((frozen_same (hb5.block F.Y hYlt)).trans hfY)
                          have HSX : Hid _ := HS4.out.push hk' hcY HWO.out hwl HWI.out hoc5 hb5 ho6 hg6 hat6
                          have HOX : Hid (Own Wc.heap.size a3 L.length c3 (W6.setCell ⟨F.Y, k', none⟩ (.slice (some ⟨g6, 0, none⟩) ((LL k').length + 1) c6))) := ⟨_, own_pushed HO4.out HWO.out hb5 hg6 HYW.out⟩
                          refine hK.out _ _ ?_ (fun hHeld => ?_)
                          · exact trivial
                          clear hK K
                          try simp only [Act.put, List.setIfInBounds_toArray, List.set_cons_zero, List.set_cons_succ]
                          refine wpAnyH_take (i := 11) (oi := { dst := some 139, op := Op.indexAddr 35 (Operand.tmp 17) (Operand.tmp 129), type := 0, pos := "talk.go:231", after := #[{ on := 1, ground := Ground.data }, { on := 0, ground := Ground.phase }, { on := 1, ground := Ground.phase }, { on := 2, ground := Ground.phase }, { on := 3, ground := Ground.phase }, { on := 4, ground := Ground.phase }, { on := 5, ground := Ground.phase }, { on := 6, ground := Ground.phase }, { on := 7, ground := Ground.phase }, { on := 8, ground := Ground.phase }, { on := 9, ground := Ground.phase }, { on := 10, ground := Ground.phase }], guard := none }) (v := ?_) rfl (by kernel_rfl) (by kernel_rfl) (by kernel_rfl) (fun _ _ _ h => h) (Or.inl ⟨by rfl, ?_⟩) (by assumption) ?_
                          case refine_2 => intro w hSw; (try dsimp only at hSw); go_simp; (try with_reducible rfl)
                          simp only [Act.put, List.setIfInBounds_toArray, List.set_cons_zero, List.set_cons_succ]
                          refine wpAnyH_ready (rs := [12]) (by kernel_rfl) (by simp) ?_
                          refine (AllReadyH.cons (o := { dst := none, op := Op.store 34 (Operand.tmp 139) (Operand.tmp 138), type := 0, pos := "talk.go:231", after := #[{ on := 11, ground := Ground.data }, { on := 10, ground := Ground.data }, { on := 10, ground := Ground.chain }, { on := 0, ground := Ground.phase }, { on := 1, ground := Ground.phase }, { on := 2, ground := Ground.phase }, { on := 3, ground := Ground.phase }, { on := 4, ground := Ground.phase }, { on := 5, ground := Ground.phase }, { on := 6, ground := Ground.phase }, { on := 7, ground := Ground.phase }, { on := 8, ground := Ground.phase }, { on := 9, ground := Ground.phase }, { on := 10, ground := Ground.phase }], guard := none }) rfl (fun K hK => ?_) AllReadyH.nil)
                          go_simp
                          refine hK.out _ _ ?_ (fun hHeld => ?_)
                          · exact trivial
                          clear hK K
                          try simp only [Act.put, List.setIfInBounds_toArray, List.set_cons_zero, List.set_cons_succ]
                          refine wpAnyH_done (by kernel_rfl) ?_ _
                          have HLX : Hid (∀ j, j < 2 → (Lb.upd LL k' (LL k' ++ [L]) j).length ≤ i + 1 ∧ ∀ l ∈ Lb.upd LL k' (LL k' ++ [L]) j, l.length ≤ 20) := HLP.out
                          clear hb5 hb6 hg6 hat6 ho6 ow5 hoc5 cY5 cY6 fY6 hg6b hcY hfY
                          have hbnd : L.length ≤ 140737488355328 := (by omega)
                          go_wp2_with fail
                          go_loopw [25] (fun jv wr => ∃ j : Nat, jv = .int .i64 (j : Int) ∧ j ≤ L.length ∧ St w N' Wh F (Lb.upd es k e') (Lb.upd rs k r') (Lb.upd LL k' (LL k' ++ [L])) (fun g => BB ≤ g ∧ g < w4.heap.size) wr ∧ Own Wc.heap.size a3 L.length c3 wr) (fun jv _ => L.length - (intOf jv).toNat)
                          case atStart => exact ⟨0, rfl, by omega, HSX.out, HOX.out⟩
                          case round =>
                            clear HSX HOX
                            obtain ⟨j, rfl, hj, hsj, hoj⟩ := hrel
                            by_cases hjl : j < L.length
                            · have hjl' : (j : Int) < (L.length : Int) := by omega
                              obtain ⟨gl, y0, y1, y2, y3, y4, rfl, hgl, z0, z1, z2, z3, z4, fz, cur, hcur⟩ := hoj.at hjl
                              have HSJ : Hid _ := hsj
                              have HOJ : Hid (Own Wc.heap.size (some ⟨gl, 0, none⟩) L.length c3 wr) := hoj
                              have hBg : BB ≤ gl := by omega
                              have hb2g : F.b2 ≤ gl := by omega
                              clear hsj hoj
                              go_wp2
                              go_roundw
                              case rel => exact ⟨j + 1, by go_num, by omega, HSJ.out.zero (cur := cur) (((((ko_set _ gl _ _).trans (ko_set _ gl _ _)).trans (ko_set _ gl _ _)).trans (ko_set _ gl _ _)).trans (ko_set _ gl _ _)) ⟨hBg, (HO4.out.lt gl rfl).2⟩ hcur hb2g, ((((HOJ.out.set _ _).set _ _).set _ _).set _ _).set _ _⟩
                              case measure => simp [intOf]; omega
                            · have hjl' : ¬ (j : Int) < (L.length : Int) := by omega
                              have HSX : Hid _ := hsj
                              clear hsj hoj
                              go_wp2_with fail
                              go_meet
                              case rel => exact ⟨_, _, _, HSX.out.sub (fun _ h => h.elim), HLX.out⟩
                by_cases h3 : o0 = 3
                · as_aux_lemma =>
                    have b1 : (o0 == 1) = false := by simp; omega
                    have b2 : (o0 == 2) = false := by simp; omega
                    have b3 : (o0 == 3) = true := by simp [h3]
                    clear h1 h2 h3
                    have hLk := (HLL.out k hk2).1
                    obtain ⟨wx, wn, wm, hcY, vs, hwo, hwl, hwi⟩ := HSC.out.wy k hk2
                    have hwn : wn = (LL k).length := by
                      rcases hwo.2 with ⟨h, h'⟩ | ⟨gg, cap, cur, h, _⟩
                      · simp only [Value.slice.injEq] at h; omega
                      · simp only [Value.slice.injEq] at h; exact h.2.1
                    subst hwn
                    clear hwo hwl hwi
                    by_cases hem : (LL k).length = 0
                    · have bem : (((LL k).length : Int) == 0) = true := by simp [hem]
                      clear hem
                      go_wp2_with fail
                      go_roundw
                      case rel => exact ⟨i + 1, _, _, _, by go_num, by omega, by omega, HSC.out.sub (fun _ h => h.elim), HLX.out⟩
                      case measure => simp [intOf]; omega
                    have bem : (((LL k).length : Int) == 0) = false := beq_eq_false_iff_ne.2 (by omega)
                    have KC3 : ∀ w', Calls Try.prog 8 #[.int .i64 o3, .int .i64 ((LL k).length : Int)] w' (Chose (LL k).length w') := fun w' => choose_any o3 (LL k).length w' (by omega) (by omega) HNN.out.1 HNN.out.2
                    go_upto_region 38 with fail
                    go_region_held3 (fun W' => W'.cell? ⟨BB, 3, none⟩ = some (.int .i64 o3) ∧ W'.cell? ⟨F.Y, k, none⟩ = some (.slice wx (LL k).length wm)) (go_keep) (first | (go_at_call 8; (with_reducible refine (KC3 _).mono ?_); rintro e wq ⟨pk, rfl, hpk, rfl⟩))
                    obtain ⟨Wd, hWd⟩ : ∃ Wd, Wc.drew = Wd := ⟨_, rfl⟩
                    rw [hWd]
                    have hbd : Below Wc.heap.size Wc Wd := hWd ▸ (Below.refl _ _).drew
                    have HSD : Hid (St w N' Wh F es rs LL (fun g => BB ≤ g) Wd) := HSC.out.below hbd
                    have HBD : Hid (Wd.heap[BB]? = some (.cells #[.int .i64 o0, .int .i64 o1, .int .i64 o2, .int .i64 o3, .string o4, .bool o5, .slice oa ol.length ock] 38 (0, 0))) := (hbd.block BB hBBc).trans HBX.out
                    have hBBd : BB < Wd.heap.size := Nat.lt_of_lt_of_le hBBc hbd.size
                    clear hWd hcY x0 x1 x2 x3 x4 x5 x6 KC3
                    obtain ⟨wx1, wn1, wm1, hcY1, vs1, hwo1, hwl1, hwi1⟩ := HSD.out.wy k hk2
                    have hwn1 : wn1 = (LL k).length := by
                      rcases hwo1.2 with ⟨h, h'⟩ | ⟨gg, cap, cur, h, _⟩
                      · simp only [Value.slice.injEq] at h; omega
                      · simp only [Value.slice.injEq] at h; exact h.2.1
                    subst hwn1
                    obtain ⟨gw, cw, hgw, hgb⟩ : ∃ gw cw, (Value.slice wx1 (LL k).length wm1) = .slice (some ⟨gw, 0, none⟩) (LL k).length cw ∧ F.b2 ≤ gw := by
                      rcases hwo1.2 with ⟨h, h'⟩ | ⟨gg, cap, cur, h, hg', _⟩
                      · omega
                      · exact ⟨gg, cap, h, hg'⟩
                    simp only [Value.slice.injEq, true_and] at hgw
                    obtain ⟨rfl, rfl⟩ := hgw
                    have hpkv : pk < vs1.length := by omega
                    have hji := (hwi1 pk hpk hpkv).1
                    have hj20 : (LL k)[pk].length ≤ 20 := (HLL.out k hk2).2 _ (List.getElem_mem hpk)
                    obtain ⟨lj, hlj⟩ : ∃ lj, (LL k)[pk] = lj := ⟨_, rfl⟩
                    rw [hlj] at hji hj20
                    obtain ⟨aj, cj, hvj, hij, haj⟩ := isT_own hji (by omega)
                    have cW := (hwo1.cellAt pk (by omega)).trans (List.getElem?_eq_getElem hpkv)
                    rw [hvj] at cW
                    have hpki : (pk : Int) < ((LL k).length : Int) := by omega
                    have HWO : Hid (Wd.ownsRow F.b2 36 1 (.slice (some ⟨gw, 0, none⟩) (LL k).length wm1) (LL k).length vs1) := hwo1
                    have HWI : Hid _ := hwi1
                    have HLJ : Hid ((LL k)[pk] = lj) := hlj
                    have HIa : Hid (IsT (Wd.alloc (.cells #[] 44)) aj lj) := hij.below ((Below.refl _ Wd).alloc (Nat.le_refl _) _)
                    have HIj : Hid (IsT Wd aj lj) := hij
                    have HAJ : Hid (Away aj (F.s k) ∧ Away aj (F.p k)) := by
                      have o := HSD.out.ords hk2
                      have l := HSD.out.lo
                      refine ⟨fun p hp => ?_, fun p hp => ?_⟩
                      · have := (haj p hp).1; omega
                      · have := (haj p hp).1; omega
                    have HPW : Hid (F.p k < Wd.heap.size ∧ F.s k < Wd.heap.size) := by
                      have o := HSD.out.ords hk2
                      have l := HSD.out.lo
                      exact ⟨by omega, by omega⟩
                    have hsl : (rs k).length = N' := (HSC.out.sim k hk2).len
                    obtain ⟨er, her⟩ : ∃ er, hearE N' lj = er := ⟨_, rfl⟩
                    obtain ⟨e', he'⟩ : ∃ e', (if hearE N' lj = 0 then hearAll (es k) lj else es k) = e' := ⟨_, rfl⟩
                    obtain ⟨r', hr'⟩ : ∃ r', (if hearE N' lj = 0 then hearAllQ (rs k) lj else rs k) = r' := ⟨_, rfl⟩
                    have HSM : Hid (Sim N' e' r') := by (have := sim_hearR (HSC.out.sim k hk2) lj; rw [he', hr'] at this; exact this)
                    have K14 := fun W' a3 c3 (hT : Tk W' (F.p k) (Wh k) (N' : Int) (es k)) (hI : IsT W' a3 lj) (hA : Away a3 (F.p k)) => hear_all (c := c3) hT hN2 hI hA
                    have K15 := fun W' (hR : Rk W' F.base (F.q k) (F.s k) (F.c k) (Wh k) (rs k)) (hI : IsT W' aj lj) => hear_doc (c := cj) hR hI (.inr HAJ.out.1)
                    rw [he', her] at K14
                    rw [hsl, hr', her] at K15
                    have ber : (er != er) = false := by simp
                    clear her he' hr' hsl hwo1 hwi1 hlj hij haj hji hvj
                    cases o5
                    · go_upto_region 43 with (first
                        | (at_builtin; refine wpList_app _ rfl (.tmp 171) (.tmp 172) rfl Wd.heap.size _ _ _ rfl (own_empty Wd Wd.heap.size (Nat.le_refl _)) _ _ _ rfl HIa.out (by unfold maxLen; omega) (by omega) (by simp) ?_; intro v' W3 hown3 hgrow3; rw [Nat.zero_add, List.nil_append] at hown3; have hb3 : Below Wd.heap.size Wd W3 := ((Below.refl _ Wd).alloc (Nat.le_refl _) _).grown hgrow3 (by simp) (fun q hq => by cases hq; exact Nat.le_refl _); obtain ⟨a3, c3, rfl, hi3', ha3⟩ := isT_own hown3 (by omega); have HS3 : Hid _ := HSD.out.below hb3; have hA3 : Away a3 (F.p k) := (fun p hp => (by have := (ha3 p hp).1; have := HPW.out.1; omega)))
                        | (go_at_call 14; (with_reducible refine (K14 W3 a3 c3 (HS3.out.tk k hk2) hi3' hA3).mono ?_); rintro e w2 ⟨rfl, T2, k2⟩)
                        | (go_at_call 15; (with_reducible refine (K15 w2 ((HS3.out.rk k hk2).ko k2 nqp nsp) ((HIj.out.below hb3).ko k2 HAJ.out.2)).mono ?_); rintro e w3 ⟨rfl, R3, k3⟩; have HSX : Hid _ := HS3.out.upd hk2 (kx_of k2 k3) (T2.ko k3 nps) R3 HSM.out; have HB3 := (k3.2 BB nB2 (Nat.lt_of_lt_of_le (Nat.lt_of_lt_of_le hBBd hb3.size) k2.1)).trans ((k2.2 BB nB1 (Nat.lt_of_lt_of_le hBBd hb3.size)).trans ((hb3.block BB hBBd).trans HBD.out)); have x5 := cell_of_row _ _ 5 _ _ _ HB3))
                      obtain ⟨wx2, wn2, wm2, hcY2, vs2, hwo2, hwl2, hwi2⟩ := HSX.out.wy k hk2
                      have hwn2 : wn2 = (LL k).length := by
                        rcases hwo2.2 with ⟨h, h'⟩ | ⟨gg, cap, cur, h, _⟩
                        · simp only [Value.slice.injEq] at h; omega
                        · simp only [Value.slice.injEq] at h; exact h.2.1
                      subst hwn2
                      obtain ⟨gw2, cw2, hgw2, hcap2⟩ : ∃ gw cw, (Value.slice wx2 (LL k).length wm2) = .slice (some ⟨gw, 0, none⟩) (LL k).length cw ∧ (LL k).length ≤ cw := by
                        rcases hwo2.2 with ⟨h, h'⟩ | ⟨gg, cap, cur, h, _, _, hc', _⟩
                        · omega
                        · exact ⟨gg, cap, h, hc'⟩
                      simp only [Value.slice.injEq, true_and] at hgw2
                      obtain ⟨rfl, rfl⟩ := hgw2
                      have hgl2 : gw2 < w3.heap.size := (hwo2.lt gw2 rfl).2
                      have HCW : Hid (∀ W', Below w3.heap.size w3 W' → ∀ j u, vs2[j]? = some u → W'.cell? ⟨gw2, j, none⟩ = some u) := fun W' hW j u hu => by
                        have hj : j < vs2.length := (List.getElem?_eq_some_iff.1 hu).1
                        exact (hW.cell (p := ⟨gw2, j, none⟩) hgl2).trans ((hwo2.cellAt j (by omega)).trans hu)
                      have HONE : Hid (∀ u ∈ vs2, u.oneCell' = true) := fun u hu => by
                        obtain ⟨j, hj, rfl⟩ := List.getElem_of_mem hu
                        rcases (hwi2 j (by omega) hj).1.2 with ⟨h, _⟩ | ⟨gg, cap, cur, h, _⟩ <;> rw [h] <;> rfl
                      have HWI2 : Hid _ := hwi2
                      have hfY2 := HSX.out.yf k
                      have hYlt2 : F.Y < w3.heap.size := cell_lt hcY2
                      obtain ⟨i36, hi36, hz360, hz361, hz362⟩ := info_parts info36
                      have hk2i : (k : Int) < 2 := by omega
                      have p1 : (pk : Int) ≤ (wm2 : Int) := by omega
                      have p2 : IntKind.i64.wrap ((pk : Int) + 1) = ((pk + 1 : Nat) : Int) := by rw [wrap_id (by omega) (by omega)]; simp
                      have p3 : ((pk + 1 : Nat) : Int) ≤ ((LL k).length : Int) := by omega
                      have p4 : pk + 1 ≤ (LL k).length := by omega
                      have HLE : Hid (∀ j, j < 2 → (Lb.upd LL k ((LL k).eraseIdx pk) j).length ≤ i + 1 ∧ ∀ l ∈ Lb.upd LL k ((LL k).eraseIdx pk) j, l.length ≤ 20) := fun j hj => by
                        by_cases e : j = k
                        · subst e
                          rw [upd_same]
                          exact ⟨by rw [List.length_eraseIdx_of_lt hpk]; omega, fun l hl => (HLL.out j hj).2 l (List.mem_of_mem_eraseIdx hl)⟩
                        · rw [upd_other _ _ e]
                          exact ⟨by have := (HLL.out j hj).1; omega, (HLL.out j hj).2⟩
                      clear hwo2 hwi2 hown3 hgrow3 hi3' ha3 hA3 T2 R3 k2 k3 HB3 x5 K14 K15
                      by_cases hce : pk + 1 = wm2
                      · have p5 : wm2 ≤ (LL k).length := by omega
                        have p6 : (LL k).length - wm2 = 0 := by omega
                        refine region_z (S := fun W => W.cell? ⟨F.Y, k, none⟩ = some (.slice (some ⟨gw2, 0, none⟩) (LL k).length wm2)) 16 (by kernel_rfl) (by show w3.drew.cell? _ = _; exact hcY2) (fun hHeld => ?_)
                        refine take_z (z := 16) (i := 0) (oi := { dst := some 182, op := Op.move (Operand.tmp 20), type := 3, pos := "talk.go:245", after := #[], guard := none }) (v := ?_) (by kernel_rfl) (by decide) rfl (by kernel_rfl) (by kernel_rfl) (by kernel_rfl) (fun _ _ _ h => h) (Or.inl ⟨by rfl, ?_⟩) (by assumption) ?_
                        case refine_2 => intro w hSw; (try dsimp only at hSw); go_simp; (try with_reducible rfl)
                        simp only [Act.put, List.setIfInBounds_toArray, List.set_cons_zero, List.set_cons_succ]
                        refine take_z (z := 16) (i := 2) (oi := { dst := some 184, op := Op.move (Operand.tmp 20), type := 3, pos := "talk.go:245", after := #[], guard := none }) (v := ?_) (by kernel_rfl) (by decide) rfl (by kernel_rfl) (by kernel_rfl) (by kernel_rfl) (fun _ _ _ h => h) (Or.inl ⟨by rfl, ?_⟩) (by assumption) ?_
                        case refine_2 => intro w hSw; (try dsimp only at hSw); go_simp; (try with_reducible rfl)
                        simp only [Act.put, List.setIfInBounds_toArray, List.set_cons_zero, List.set_cons_succ]
                        refine take_z (z := 16) (i := 3) (oi := { dst := some 185, op := Op.indexAddr 35 (Operand.tmp 17) (Operand.tmp 184), type := 0, pos := "talk.go:245", after := #[{ on := 2, ground := Ground.data }], guard := none }) (v := ?_) (by kernel_rfl) (by decide) rfl (by kernel_rfl) (by kernel_rfl) (by kernel_rfl) (fun _ _ _ h => h) (Or.inl ⟨by rfl, ?_⟩) (by assumption) ?_
                        case refine_2 => intro w hSw; (try dsimp only at hSw); go_simp; (try with_reducible rfl)
                        simp only [Act.put, List.setIfInBounds_toArray, List.set_cons_zero, List.set_cons_succ]
                        refine take_z (z := 16) (i := 4) (oi := { dst := some 186, op := Op.load 34 (Operand.tmp 185), type := 34, pos := "talk.go:245", after := #[{ on := 3, ground := Ground.data }], guard := none }) (v := ?_) (by kernel_rfl) (by decide) rfl (by kernel_rfl) (by kernel_rfl) (by kernel_rfl) (fun _ _ _ h => h) (Or.inl ⟨by rfl, ?_⟩) (by assumption) ?_
                        case refine_2 => intro w hSw; (try dsimp only at hSw); go_simp; (try with_reducible rfl)
                        simp only [Act.put, List.setIfInBounds_toArray, List.set_cons_zero, List.set_cons_succ]
                        refine take_z (z := 16) (i := 5) (oi := { dst := some 187, op := Op.move (Operand.tmp 26), type := 3, pos := "talk.go:245", after := #[], guard := none }) (v := ?_) (by kernel_rfl) (by decide) rfl (by kernel_rfl) (by kernel_rfl) (by kernel_rfl) (fun _ _ _ h => h) (Or.inl ⟨by rfl, ?_⟩) (by assumption) ?_
                        case refine_2 => intro w hSw; (try dsimp only at hSw); go_simp; (try with_reducible rfl)
                        simp only [Act.put, List.setIfInBounds_toArray, List.set_cons_zero, List.set_cons_succ]
                        refine take_z (z := 16) (i := 6) (oi := { dst := some 188, op := Op.slice 34 (Operand.tmp 186) none (some (Operand.tmp 187)) none, type := 34, pos := "talk.go:245", after := #[{ on := 4, ground := Ground.data }, { on := 5, ground := Ground.data }], guard := none }) (v := ?_) (by kernel_rfl) (by decide) rfl (by kernel_rfl) (by kernel_rfl) (by kernel_rfl) (fun _ _ _ h => h) (Or.inl ⟨by rfl, ?_⟩) (by assumption) ?_
                        case refine_2 => intro w hSw; (try dsimp only at hSw); go_simp; (try with_reducible rfl)
                        simp only [Act.put, List.setIfInBounds_toArray, List.set_cons_zero, List.set_cons_succ]
                        refine take_z (z := 16) (i := 8) (oi := { dst := some 190, op := Op.move (Operand.tmp 20), type := 3, pos := "talk.go:245", after := #[], guard := none }) (v := ?_) (by kernel_rfl) (by decide) rfl (by kernel_rfl) (by kernel_rfl) (by kernel_rfl) (fun _ _ _ h => h) (Or.inl ⟨by rfl, ?_⟩) (by assumption) ?_
                        case refine_2 => intro w hSw; (try dsimp only at hSw); go_simp; (try with_reducible rfl)
                        simp only [Act.put, List.setIfInBounds_toArray, List.set_cons_zero, List.set_cons_succ]
                        refine take_z (z := 16) (i := 9) (oi := { dst := some 191, op := Op.indexAddr 35 (Operand.tmp 17) (Operand.tmp 190), type := 0, pos := "talk.go:245", after := #[{ on := 8, ground := Ground.data }], guard := none }) (v := ?_) (by kernel_rfl) (by decide) rfl (by kernel_rfl) (by kernel_rfl) (by kernel_rfl) (fun _ _ _ h => h) (Or.inl ⟨by rfl, ?_⟩) (by assumption) ?_
                        case refine_2 => intro w hSw; (try dsimp only at hSw); go_simp; (try with_reducible rfl)
                        simp only [Act.put, List.setIfInBounds_toArray, List.set_cons_zero, List.set_cons_succ]
                        refine take_z (z := 16) (i := 10) (oi := { dst := some 192, op := Op.load 34 (Operand.tmp 191), type := 34, pos := "talk.go:245", after := #[{ on := 9, ground := Ground.data }], guard := none }) (v := ?_) (by kernel_rfl) (by decide) rfl (by kernel_rfl) (by kernel_rfl) (by kernel_rfl) (fun _ _ _ h => h) (Or.inl ⟨by rfl, ?_⟩) (by assumption) ?_
                        case refine_2 => intro w hSw; (try dsimp only at hSw); go_simp; (try with_reducible rfl)
                        simp only [Act.put, List.setIfInBounds_toArray, List.set_cons_zero, List.set_cons_succ]
                        refine take_z (z := 16) (i := 11) (oi := { dst := some 193, op := Op.move (Operand.tmp 26), type := 3, pos := "talk.go:245", after := #[], guard := none }) (v := ?_) (by kernel_rfl) (by decide) rfl (by kernel_rfl) (by kernel_rfl) (by kernel_rfl) (fun _ _ _ h => h) (Or.inl ⟨by rfl, ?_⟩) (by assumption) ?_
                        case refine_2 => intro w hSw; (try dsimp only at hSw); go_simp; (try with_reducible rfl)
                        simp only [Act.put, List.setIfInBounds_toArray, List.set_cons_zero, List.set_cons_succ]
                        refine take_z (z := 16) (i := 12) (oi := { dst := some 194, op := Op.binOp BinOp.add 3 (Operand.tmp 193) (Operand.const (Value.int IntKind.i64 1)) 3, type := 3, pos := "talk.go:245", after := #[{ on := 11, ground := Ground.data }], guard := none }) (v := ?_) (by kernel_rfl) (by decide) rfl (by kernel_rfl) (by kernel_rfl) (by kernel_rfl) (fun _ _ _ h => h) (Or.inl ⟨by rfl, ?_⟩) (by assumption) ?_
                        case refine_2 => intro w hSw; (try dsimp only at hSw); go_simp; (try with_reducible rfl)
                        simp only [Act.put, List.setIfInBounds_toArray, List.set_cons_zero, List.set_cons_succ]
                        refine take_z (z := 16) (i := 13) (oi := { dst := some 195, op := Op.slice 34 (Operand.tmp 192) (some (Operand.tmp 194)) none none, type := 34, pos := "talk.go:245", after := #[{ on := 10, ground := Ground.data }, { on := 12, ground := Ground.data }], guard := none }) (v := ?_) (by kernel_rfl) (by decide) rfl (by kernel_rfl) (by kernel_rfl) (by kernel_rfl) (fun _ _ _ h => h) (Or.inl ⟨by rfl, ?_⟩) (by assumption) ?_
                        case refine_2 => intro w hSw; (try dsimp only at hSw); go_simp; (try with_reducible rfl)
                        simp only [Act.put, List.setIfInBounds_toArray, List.set_cons_zero, List.set_cons_succ]
                        refine ready_z (rs := [1]) (by kernel_rfl) (by simp) ?_
                        refine (AllZ.cons (o := { dst := some 183, op := Op.buildSlice 34 0 #[], type := 34, pos := "talk.go:245", after := #[], guard := none }) rfl (fun K hK => ?_) AllZ.nil)
                        go_simp
                        refine hK.out _ _ ?_ (fun hHeld => ?_)
                        · go_keep
                        clear hK K
                        try simp only [Act.put, List.setIfInBounds_toArray, List.set_cons_zero, List.set_cons_succ]
                        refine ready_z (rs := [7]) (by kernel_rfl) (by simp) ?_
                        refine (AllZ.cons (o := { dst := some 189, op := Op.call { callee := Callee.builtin Builtin.append, args := #[Operand.tmp 183, Operand.tmp 188], argTypes := #[34, 34] }, type := 34, pos := "talk.go:245", after := #[{ on := 1, ground := Ground.data }, { on := 6, ground := Ground.data }], guard := none }) rfl (fun K hK => ?_) AllZ.nil)
                        refine step_append_own rfl (.tmp 183) (.tmp 188) 34 rfl w3.heap.size 36 i36 (.slice none 0 0) 1 24 Try.underlying34 hi36 hz360 hz361 hz362 rfl (by decide) (.slice (some ⟨w3.heap.size, 0, none⟩) 0 0) 0 [] rfl (own_empty36 w3 w3.heap.size (Nat.le_refl _)).drew ⟨gw2, 0, none⟩ pk _ (vs2.take pk) rfl (by simp; omega) (fun j u hu => by rw [addr_add0 gw2 j]; exact HCW.out _ ((Below.refl _ w3).alloc (Nat.le_refl _) _).drew j u (by rw [List.getElem?_take] at hu; split at hu; exact hu; cases hu)) (fun u hu => HONE.out u (List.mem_of_mem_take hu)) (by unfold maxLen; omega) (by omega) (by simp) ?_
                        intro v5 W5 ho5 hg5
                        have hb5 : Below w3.heap.size w3 W5 := ((Below.refl _ w3).alloc (Nat.le_refl _) _).drew.grown hg5 (by simp) (fun q hq => by cases hq; exact Nat.le_refl _)
                        have cY5 := (hb5.cell (p := ⟨F.Y, k, none⟩) hYlt2).trans hcY2
                        clear hg5
                        refine hK.out _ _ ?_ (fun hHeld => ?_)
                        · exact cY5
                        clear hK K
                        try simp only [Act.put, List.setIfInBounds_toArray, List.set_cons_zero, List.set_cons_succ]
                        refine ready_z (rs := [14]) (by kernel_rfl) (by simp) ?_
                        refine (AllZ.cons (o := { dst := some 196, op := Op.call { callee := Callee.builtin Builtin.append, args := #[Operand.tmp 189, Operand.tmp 195], argTypes := #[34, 34] }, type := 34, pos := "talk.go:245", after := #[{ on := 7, ground := Ground.data }, { on := 13, ground := Ground.data }, { on := 7, ground := Ground.chain }], guard := none }) rfl (fun K hK => ?_) AllZ.nil)
                        refine step_append_own rfl (.tmp 189) (.tmp 195) 34 rfl w3.heap.size 36 i36 (.slice none 0 0) 1 24 Try.underlying34 hi36 hz360 hz361 hz362 rfl (by decide) v5 _ _ rfl ho5 ⟨gw2, 0, none⟩ 0 _ (vs2.drop (pk + 1)) rfl (by simp; omega) (fun j u hu => by rw [List.drop_eq_nil_of_le (by omega)] at hu; simp at hu) (fun u hu => HONE.out u (List.mem_of_mem_drop hu)) (by unfold maxLen; omega) (by omega) (by have := hb5.size; omega) ?_
                        intro v6 W6 ho6 hg6
                        have hb6 : Below w3.heap.size w3 W6 := hb5.grown hg6 (by have := hb5.size; omega) (fun q hq => (ho5.lt q hq).1)
                        obtain ⟨x6, n6, m6, rfl⟩ : ∃ x n m, v6 = .slice x n m := by
                          rcases ho6.2 with ⟨h, _⟩ | ⟨gg, cap, cur, h, _⟩ <;> exact ⟨_, _, _, h⟩
                        rw [show 0 + pk + 0 = (LL k).length - 1 by omega, List.nil_append] at ho6
                        have cY6 := (hb6.cell (p := ⟨F.Y, k, none⟩) hYlt2).trans hcY2
                        have fY6 : W6.frozen? ⟨F.Y, k, none⟩ = false := (frozen_same (hb6.block F.Y hYlt2)).trans hfY2
                        have HSX : Hid _ := HSX.out.drop hk2 hwl2 HWI2.out hpk hb6 ho6
                        clear hg6
                        refine hK.out _ _ ?_ (fun hHeld => ?_)
                        · exact cY6
                        clear hK K
                        try simp only [Act.put, List.setIfInBounds_toArray, List.set_cons_zero, List.set_cons_succ]
                        refine take_z (z := 16) (i := 15) (oi := { dst := some 197, op := Op.indexAddr 35 (Operand.tmp 17) (Operand.tmp 182), type := 0, pos := "talk.go:245", after := #[{ on := 0, ground := Ground.data }, { on := 0, ground := Ground.phase }, { on := 1, ground := Ground.phase }, { on := 2, ground := Ground.phase }, { on := 3, ground := Ground.phase }, { on := 4, ground := Ground.phase }, { on := 5, ground := Ground.phase }, { on := 6, ground := Ground.phase }, { on := 7, ground := Ground.phase }, { on := 8, ground := Ground.phase }, { on := 9, ground := Ground.phase }, { on := 10, ground := Ground.phase }, { on := 11, ground := Ground.phase }, { on := 12, ground := Ground.phase }, { on := 13, ground := Ground.phase }, { on := 14, ground := Ground.phase }], guard := none }) (v := ?_) (by kernel_rfl) (by decide) rfl (by kernel_rfl) (by kernel_rfl) (by kernel_rfl) (fun _ _ _ h => h) (Or.inl ⟨by rfl, ?_⟩) (by assumption) ?_
                        case refine_2 => intro w hSw; (try dsimp only at hSw); go_simp; (try with_reducible rfl)
                        simp only [Act.put, List.setIfInBounds_toArray, List.set_cons_zero, List.set_cons_succ]
                        refine ready_z (rs := [16]) (by kernel_rfl) (by simp) ?_
                        refine (AllZ.last (o := { dst := none, op := Op.store 34 (Operand.tmp 197) (Operand.tmp 196), type := 0, pos := "talk.go:245", after := #[{ on := 15, ground := Ground.data }, { on := 14, ground := Ground.data }, { on := 14, ground := Ground.chain }, { on := 0, ground := Ground.phase }, { on := 1, ground := Ground.phase }, { on := 2, ground := Ground.phase }, { on := 3, ground := Ground.phase }, { on := 4, ground := Ground.phase }, { on := 5, ground := Ground.phase }, { on := 6, ground := Ground.phase }, { on := 7, ground := Ground.phase }, { on := 8, ground := Ground.phase }, { on := 9, ground := Ground.phase }, { on := 10, ground := Ground.phase }, { on := 11, ground := Ground.phase }, { on := 12, ground := Ground.phase }, { on := 13, ground := Ground.phase }, { on := 14, ground := Ground.phase }], guard := none }) rfl (fun K hK => ?_) AllZ.nil)
                        go_simp
                        refine hK.out _ _ ?_
                        clear hK K
                        try simp only [Act.put, List.setIfInBounds_toArray, List.set_cons_zero, List.set_cons_succ]
                        refine done_z (by kernel_rfl) ?_ _
                        have HLX : Hid (∀ j, j < 2 → (Lb.upd LL k ((LL k).eraseIdx pk) j).length ≤ i + 1 ∧ ∀ l ∈ Lb.upd LL k ((LL k).eraseIdx pk) j, l.length ≤ 20) := HLE.out
                        clear hb5 hb6 ho6 ho5 cY5 cY6 fY6 hcY2 hfY2
                        go_wp2_with fail
                        go_meet
                        case rel => exact ⟨_, _, _, HSX.out.sub (fun _ h => h.elim), HLX.out⟩
                      · have p5 : ¬ wm2 = pk + 1 := fun h => hce h.symm
                        have p6 : (0 : Int) ≤ (pk : Int) + 1 := by omega
                        have p7 : (pk : Int) + 1 ≤ ((LL k).length : Int) := by omega
                        refine region_z (S := fun W => W.cell? ⟨F.Y, k, none⟩ = some (.slice (some ⟨gw2, 0, none⟩) (LL k).length wm2)) 16 (by kernel_rfl) (by show w3.drew.cell? _ = _; exact hcY2) (fun hHeld => ?_)
                        refine take_z (z := 16) (i := 0) (oi := { dst := some 182, op := Op.move (Operand.tmp 20), type := 3, pos := "talk.go:245", after := #[], guard := none }) (v := ?_) (by kernel_rfl) (by decide) rfl (by kernel_rfl) (by kernel_rfl) (by kernel_rfl) (fun _ _ _ h => h) (Or.inl ⟨by rfl, ?_⟩) (by assumption) ?_
                        case refine_2 => intro w hSw; (try dsimp only at hSw); go_simp; (try with_reducible rfl)
                        simp only [Act.put, List.setIfInBounds_toArray, List.set_cons_zero, List.set_cons_succ]
                        refine take_z (z := 16) (i := 2) (oi := { dst := some 184, op := Op.move (Operand.tmp 20), type := 3, pos := "talk.go:245", after := #[], guard := none }) (v := ?_) (by kernel_rfl) (by decide) rfl (by kernel_rfl) (by kernel_rfl) (by kernel_rfl) (fun _ _ _ h => h) (Or.inl ⟨by rfl, ?_⟩) (by assumption) ?_
                        case refine_2 => intro w hSw; (try dsimp only at hSw); go_simp; (try with_reducible rfl)
                        simp only [Act.put, List.setIfInBounds_toArray, List.set_cons_zero, List.set_cons_succ]
                        refine take_z (z := 16) (i := 3) (oi := { dst := some 185, op := Op.indexAddr 35 (Operand.tmp 17) (Operand.tmp 184), type := 0, pos := "talk.go:245", after := #[{ on := 2, ground := Ground.data }], guard := none }) (v := ?_) (by kernel_rfl) (by decide) rfl (by kernel_rfl) (by kernel_rfl) (by kernel_rfl) (fun _ _ _ h => h) (Or.inl ⟨by rfl, ?_⟩) (by assumption) ?_
                        case refine_2 => intro w hSw; (try dsimp only at hSw); go_simp; (try with_reducible rfl)
                        simp only [Act.put, List.setIfInBounds_toArray, List.set_cons_zero, List.set_cons_succ]
                        refine take_z (z := 16) (i := 4) (oi := { dst := some 186, op := Op.load 34 (Operand.tmp 185), type := 34, pos := "talk.go:245", after := #[{ on := 3, ground := Ground.data }], guard := none }) (v := ?_) (by kernel_rfl) (by decide) rfl (by kernel_rfl) (by kernel_rfl) (by kernel_rfl) (fun _ _ _ h => h) (Or.inl ⟨by rfl, ?_⟩) (by assumption) ?_
                        case refine_2 => intro w hSw; (try dsimp only at hSw); go_simp; (try with_reducible rfl)
                        simp only [Act.put, List.setIfInBounds_toArray, List.set_cons_zero, List.set_cons_succ]
                        refine take_z (z := 16) (i := 5) (oi := { dst := some 187, op := Op.move (Operand.tmp 26), type := 3, pos := "talk.go:245", after := #[], guard := none }) (v := ?_) (by kernel_rfl) (by decide) rfl (by kernel_rfl) (by kernel_rfl) (by kernel_rfl) (fun _ _ _ h => h) (Or.inl ⟨by rfl, ?_⟩) (by assumption) ?_
                        case refine_2 => intro w hSw; (try dsimp only at hSw); go_simp; (try with_reducible rfl)
                        simp only [Act.put, List.setIfInBounds_toArray, List.set_cons_zero, List.set_cons_succ]
                        refine take_z (z := 16) (i := 6) (oi := { dst := some 188, op := Op.slice 34 (Operand.tmp 186) none (some (Operand.tmp 187)) none, type := 34, pos := "talk.go:245", after := #[{ on := 4, ground := Ground.data }, { on := 5, ground := Ground.data }], guard := none }) (v := ?_) (by kernel_rfl) (by decide) rfl (by kernel_rfl) (by kernel_rfl) (by kernel_rfl) (fun _ _ _ h => h) (Or.inl ⟨by rfl, ?_⟩) (by assumption) ?_
                        case refine_2 => intro w hSw; (try dsimp only at hSw); go_simp; (try with_reducible rfl)
                        simp only [Act.put, List.setIfInBounds_toArray, List.set_cons_zero, List.set_cons_succ]
                        refine take_z (z := 16) (i := 8) (oi := { dst := some 190, op := Op.move (Operand.tmp 20), type := 3, pos := "talk.go:245", after := #[], guard := none }) (v := ?_) (by kernel_rfl) (by decide) rfl (by kernel_rfl) (by kernel_rfl) (by kernel_rfl) (fun _ _ _ h => h) (Or.inl ⟨by rfl, ?_⟩) (by assumption) ?_
                        case refine_2 => intro w hSw; (try dsimp only at hSw); go_simp; (try with_reducible rfl)
                        simp only [Act.put, List.setIfInBounds_toArray, List.set_cons_zero, List.set_cons_succ]
                        refine take_z (z := 16) (i := 9) (oi := { dst := some 191, op := Op.indexAddr 35 (Operand.tmp 17) (Operand.tmp 190), type := 0, pos := "talk.go:245", after := #[{ on := 8, ground := Ground.data }], guard := none }) (v := ?_) (by kernel_rfl) (by decide) rfl (by kernel_rfl) (by kernel_rfl) (by kernel_rfl) (fun _ _ _ h => h) (Or.inl ⟨by rfl, ?_⟩) (by assumption) ?_
                        case refine_2 => intro w hSw; (try dsimp only at hSw); go_simp; (try with_reducible rfl)
                        simp only [Act.put, List.setIfInBounds_toArray, List.set_cons_zero, List.set_cons_succ]
                        refine take_z (z := 16) (i := 10) (oi := { dst := some 192, op := Op.load 34 (Operand.tmp 191), type := 34, pos := "talk.go:245", after := #[{ on := 9, ground := Ground.data }], guard := none }) (v := ?_) (by kernel_rfl) (by decide) rfl (by kernel_rfl) (by kernel_rfl) (by kernel_rfl) (fun _ _ _ h => h) (Or.inl ⟨by rfl, ?_⟩) (by assumption) ?_
                        case refine_2 => intro w hSw; (try dsimp only at hSw); go_simp; (try with_reducible rfl)
                        simp only [Act.put, List.setIfInBounds_toArray, List.set_cons_zero, List.set_cons_succ]
                        refine take_z (z := 16) (i := 11) (oi := { dst := some 193, op := Op.move (Operand.tmp 26), type := 3, pos := "talk.go:245", after := #[], guard := none }) (v := ?_) (by kernel_rfl) (by decide) rfl (by kernel_rfl) (by kernel_rfl) (by kernel_rfl) (fun _ _ _ h => h) (Or.inl ⟨by rfl, ?_⟩) (by assumption) ?_
                        case refine_2 => intro w hSw; (try dsimp only at hSw); go_simp; (try with_reducible rfl)
                        simp only [Act.put, List.setIfInBounds_toArray, List.set_cons_zero, List.set_cons_succ]
                        refine take_z (z := 16) (i := 12) (oi := { dst := some 194, op := Op.binOp BinOp.add 3 (Operand.tmp 193) (Operand.const (Value.int IntKind.i64 1)) 3, type := 3, pos := "talk.go:245", after := #[{ on := 11, ground := Ground.data }], guard := none }) (v := ?_) (by kernel_rfl) (by decide) rfl (by kernel_rfl) (by kernel_rfl) (by kernel_rfl) (fun _ _ _ h => h) (Or.inl ⟨by rfl, ?_⟩) (by assumption) ?_
                        case refine_2 => intro w hSw; (try dsimp only at hSw); go_simp; (try with_reducible rfl)
                        simp only [Act.put, List.setIfInBounds_toArray, List.set_cons_zero, List.set_cons_succ]
                        refine take_z (z := 16) (i := 13) (oi := { dst := some 195, op := Op.slice 34 (Operand.tmp 192) (some (Operand.tmp 194)) none none, type := 34, pos := "talk.go:245", after := #[{ on := 10, ground := Ground.data }, { on := 12, ground := Ground.data }], guard := none }) (v := ?_) (by kernel_rfl) (by decide) rfl (by kernel_rfl) (by kernel_rfl) (by kernel_rfl) (fun _ _ _ h => h) (Or.inl ⟨by rfl, ?_⟩) (by assumption) ?_
                        case refine_2 => intro w hSw; (try dsimp only at hSw); go_simp; (try with_reducible rfl)
                        simp only [Act.put, List.setIfInBounds_toArray, List.set_cons_zero, List.set_cons_succ]
                        refine ready_z (rs := [1]) (by kernel_rfl) (by simp) ?_
                        refine (AllZ.cons (o := { dst := some 183, op := Op.buildSlice 34 0 #[], type := 34, pos := "talk.go:245", after := #[], guard := none }) rfl (fun K hK => ?_) AllZ.nil)
                        go_simp
                        refine hK.out _ _ ?_ (fun hHeld => ?_)
                        · go_keep
                        clear hK K
                        try simp only [Act.put, List.setIfInBounds_toArray, List.set_cons_zero, List.set_cons_succ]
                        refine ready_z (rs := [7]) (by kernel_rfl) (by simp) ?_
                        refine (AllZ.cons (o := { dst := some 189, op := Op.call { callee := Callee.builtin Builtin.append, args := #[Operand.tmp 183, Operand.tmp 188], argTypes := #[34, 34] }, type := 34, pos := "talk.go:245", after := #[{ on := 1, ground := Ground.data }, { on := 6, ground := Ground.data }], guard := none }) rfl (fun K hK => ?_) AllZ.nil)
                        refine step_append_own rfl (.tmp 183) (.tmp 188) 34 rfl w3.heap.size 36 i36 (.slice none 0 0) 1 24 Try.underlying34 hi36 hz360 hz361 hz362 rfl (by decide) (.slice (some ⟨w3.heap.size, 0, none⟩) 0 0) 0 [] rfl (own_empty36 w3 w3.heap.size (Nat.le_refl _)).drew ⟨gw2, 0, none⟩ pk _ (vs2.take pk) rfl (by simp; omega) (fun j u hu => by rw [addr_add0 gw2 j]; exact HCW.out _ ((Below.refl _ w3).alloc (Nat.le_refl _) _).drew j u (by rw [List.getElem?_take] at hu; split at hu; exact hu; cases hu)) (fun u hu => HONE.out u (List.mem_of_mem_take hu)) (by unfold maxLen; omega) (by omega) (by simp) ?_
                        intro v5 W5 ho5 hg5
                        have hb5 : Below w3.heap.size w3 W5 := ((Below.refl _ w3).alloc (Nat.le_refl _) _).drew.grown hg5 (by simp) (fun q hq => by cases hq; exact Nat.le_refl _)
                        have cY5 := (hb5.cell (p := ⟨F.Y, k, none⟩) hYlt2).trans hcY2
                        clear hg5
                        refine hK.out _ _ ?_ (fun hHeld => ?_)
                        · exact cY5
                        clear hK K
                        try simp only [Act.put, List.setIfInBounds_toArray, List.set_cons_zero, List.set_cons_succ]
                        refine ready_z (rs := [14]) (by kernel_rfl) (by simp) ?_
                        refine (AllZ.cons (o := { dst := some 196, op := Op.call { callee := Callee.builtin Builtin.append, args := #[Operand.tmp 189, Operand.tmp 195], argTypes := #[34, 34] }, type := 34, pos := "talk.go:245", after := #[{ on := 7, ground := Ground.data }, { on := 13, ground := Ground.data }, { on := 7, ground := Ground.chain }], guard := none }) rfl (fun K hK => ?_) AllZ.nil)
                        refine step_append_own rfl (.tmp 189) (.tmp 195) 34 rfl w3.heap.size 36 i36 (.slice none 0 0) 1 24 Try.underlying34 hi36 hz360 hz361 hz362 rfl (by decide) v5 _ _ rfl ho5 ⟨gw2, pk + 1, none⟩ ((LL k).length - (pk + 1)) _ (vs2.drop (pk + 1)) rfl (by simp; omega) (fun j u hu => by rw [addr_add gw2 (pk + 1) j]; exact HCW.out _ hb5 (pk + 1 + j) u (by rw [List.getElem?_drop] at hu; exact hu)) (fun u hu => HONE.out u (List.mem_of_mem_drop hu)) (by unfold maxLen; omega) (by omega) (by have := hb5.size; omega) ?_
                        intro v6 W6 ho6 hg6
                        have hb6 : Below w3.heap.size w3 W6 := hb5.grown hg6 (by have := hb5.size; omega) (fun q hq => (ho5.lt q hq).1)
                        obtain ⟨x6, n6, m6, rfl⟩ : ∃ x n m, v6 = .slice x n m := by
                          rcases ho6.2 with ⟨h, _⟩ | ⟨gg, cap, cur, h, _⟩ <;> exact ⟨_, _, _, h⟩
                        rw [show 0 + pk + ((LL k).length - (pk + 1)) = (LL k).length - 1 by omega, List.nil_append] at ho6
                        have cY6 := (hb6.cell (p := ⟨F.Y, k, none⟩) hYlt2).trans hcY2
                        have fY6 : W6.frozen? ⟨F.Y, k, none⟩ = false := (frozen_same (hb6.block F.Y hYlt2)).trans hfY2
                        have HSX : Hid _ := HSX.out.drop hk2 hwl2 HWI2.out hpk hb6 ho6
                        clear hg6
                        refine hK.out _ _ ?_ (fun hHeld => ?_)
                        · exact cY6
                        clear hK K
                        try simp only [Act.put, List.setIfInBounds_toArray, List.set_cons_zero, List.set_cons_succ]
                        refine take_z (z := 16) (i := 15) (oi := { dst := some 197, op := Op.indexAddr 35 (Operand.tmp 17) (Operand.tmp 182), type := 0, pos := "talk.go:245", after := #[{ on := 0, ground := Ground.data }, { on := 0, ground := Ground.phase }, { on := 1, ground := Ground.phase }, { on := 2, ground := Ground.phase }, { on := 3, ground := Ground.phase }, { on := 4, ground := Ground.phase }, { on := 5, ground := Ground.phase }, { on := 6, ground := Ground.phase }, { on := 7, ground := Ground.phase }, { on := 8, ground := Ground.phase }, { on := 9, ground := Ground.phase }, { on := 10, ground := Ground.phase }, { on := 11, ground := Ground.phase }, { on := 12, ground := Ground.phase }, { on := 13, ground := Ground.phase }, { on := 14, ground := Ground.phase }], guard := none }) (v := ?_) (by kernel_rfl) (by decide) rfl (by kernel_rfl) (by kernel_rfl) (by kernel_rfl) (fun _ _ _ h => h) (Or.inl ⟨by rfl, ?_⟩) (by assumption) ?_
                        case refine_2 => intro w hSw; (try dsimp only at hSw); go_simp; (try with_reducible rfl)
                        simp only [Act.put, List.setIfInBounds_toArray, List.set_cons_zero, List.set_cons_succ]
                        refine ready_z (rs := [16]) (by kernel_rfl) (by simp) ?_
                        refine (AllZ.last (o := { dst := none, op := Op.store 34 (Operand.tmp 197) (Operand.tmp 196), type := 0, pos := "talk.go:245", after := #[{ on := 15, ground := Ground.data }, { on := 14, ground := Ground.data }, { on := 14, ground := Ground.chain }, { on := 0, ground := Ground.phase }, { on := 1, ground := Ground.phase }, { on := 2, ground := Ground.phase }, { on := 3, ground := Ground.phase }, { on := 4, ground := Ground.phase }, { on := 5, ground := Ground.phase }, { on := 6, ground := Ground.phase }, { on := 7, ground := Ground.phase }, { on := 8, ground := Ground.phase }, { on := 9, ground := Ground.phase }, { on := 10, ground := Ground.phase }, { on := 11, ground := Ground.phase }, { on := 12, ground := Ground.phase }, { on := 13, ground := Ground.phase }, { on := 14, ground := Ground.phase }], guard := none }) rfl (fun K hK => ?_) AllZ.nil)
                        go_simp
                        refine hK.out _ _ ?_
                        clear hK K
                        try simp only [Act.put, List.setIfInBounds_toArray, List.set_cons_zero, List.set_cons_succ]
                        refine done_z (by kernel_rfl) ?_ _
                        have HLX : Hid (∀ j, j < 2 → (Lb.upd LL k ((LL k).eraseIdx pk) j).length ≤ i + 1 ∧ ∀ l ∈ Lb.upd LL k ((LL k).eraseIdx pk) j, l.length ≤ 20) := HLE.out
                        clear hb5 hb6 ho6 ho5 cY5 cY6 fY6 hcY2 hfY2
                        go_wp2_with fail
                        go_meet
                        case rel => exact ⟨_, _, _, HSX.out.sub (fun _ h => h.elim), HLX.out⟩
                    · go_upto_region 52 with (first
                        | (at_builtin; refine wpList_app _ rfl (.tmp 171) (.tmp 172) rfl Wd.heap.size _ _ _ rfl (own_empty Wd Wd.heap.size (Nat.le_refl _)) _ _ _ rfl HIa.out (by unfold maxLen; omega) (by omega) (by simp) ?_; intro v' W3 hown3 hgrow3; rw [Nat.zero_add, List.nil_append] at hown3; have hb3 : Below Wd.heap.size Wd W3 := ((Below.refl _ Wd).alloc (Nat.le_refl _) _).grown hgrow3 (by simp) (fun q hq => by cases hq; exact Nat.le_refl _); obtain ⟨a3, c3, rfl, hi3', ha3⟩ := isT_own hown3 (by omega); have HS3 : Hid _ := HSD.out.below hb3; have hA3 : Away a3 (F.p k) := (fun p hp => (by have := (ha3 p hp).1; have := HPW.out.1; omega)))
                        | (go_at_call 14; (with_reducible refine (K14 W3 a3 c3 (HS3.out.tk k hk2) hi3' hA3).mono ?_); rintro e w2 ⟨rfl, T2, k2⟩)
                        | (go_at_call 15; (with_reducible refine (K15 w2 ((HS3.out.rk k hk2).ko k2 nqp nsp) ((HIj.out.below hb3).ko k2 HAJ.out.2)).mono ?_); rintro e w3 ⟨rfl, R3, k3⟩; have HSX : Hid _ := HS3.out.upd hk2 (kx_of k2 k3) (T2.ko k3 nps) R3 HSM.out; have HB3 := (k3.2 BB nB2 (Nat.lt_of_lt_of_le (Nat.lt_of_lt_of_le hBBd hb3.size) k2.1)).trans ((k2.2 BB nB1 (Nat.lt_of_lt_of_le hBBd hb3.size)).trans ((hb3.block BB hBBd).trans HBD.out)); have x5 := cell_of_row _ _ 5 _ _ _ HB3))
                      go_wp2_with fail
                      go_meet
                      case rel => exact ⟨_, _, _, HSX.out.sub (fun _ h => h.elim), HLX.out⟩
                by_cases h4 : o0 = 4
                · as_aux_lemma =>
                    have b1 : (o0 == 1) = false := by simp; omega
                    have b2 : (o0 == 2) = false := by simp; omega
                    have b3 : (o0 == 3) = false := by simp; omega
                    have b4 : (o0 == 4) = true := by simp [h4]
                    clear h1 h2 h3 h4
                    have HB0 : Hid (Below w.heap.size w Wc) := HSC.out.bel
                    have HIa : Hid (IsT (Wc.alloc (.cells #[] 44)) oa ol) := (HTO.out.1.below HB0.out).below ((Below.refl _ Wc).alloc (Nat.le_refl _) _)
                    go_upto_region 46 with (at_builtin; refine wpList_app _ rfl (.tmp 200) (.tmp 202) rfl Wc.heap.size _ _ _ rfl (own_empty Wc Wc.heap.size (Nat.le_refl _)) _ _ _ rfl HIa.out (by have := HLB.out; unfold maxLen; omega) (by have := HLB.out; omega) (by simp) ?_; intro v' W3 hown3 hgrow3; rw [Nat.zero_add, List.nil_append] at hown3; have hb3 : Below Wc.heap.size Wc W3 := ((Below.refl _ Wc).alloc (Nat.le_refl _) _).grown hgrow3 (by simp) (fun q hq => by cases hq; exact Nat.le_refl _); obtain ⟨a3, c3, rfl, hi3', ha3⟩ := isT_own hown3 (by have := HLB.out; omega))
                    have HS3 : Hid (St w N' Wh F es rs LL (fun g => BB ≤ g) W3) := HSC.out.below hb3
                    have hW3 := hb3.size
                    have HBX3 : Hid (W3.heap[BB]? = some (.cells #[.int .i64 o0, .int .i64 o1, .int .i64 o2, .int .i64 o3, .string o4, .bool o5, .slice oa ol.length ock] 38 (0, 0))) := (hb3.block BB hBBc).trans HBX.out
                    have x63 := cell_of_row _ _ 6 _ _ _ HBX3.out
                    have HOW : Hid (W3.ownsRow Wc.heap.size 44 5 (.slice a3 ol.length c3) ol.length (tls ol)) := hown3
                    have HAP : Hid (Away a3 (F.p k) ∧ Away a3 (F.s k) ∧ (ol.length = 0 ∨ Away oa (F.s k)) ∧ (ol.length = 0 ∨ Away oa (F.p k))) := by
                      have o := HSC.out.ords hk2
                      have l := HSC.out.lo
                      refine ⟨fun p hp => ?_, fun p hp => ?_, HTO.out.2.imp id (fun h p hp => ?_), HTO.out.2.imp id (fun h p hp => ?_)⟩
                      · have := (ha3 p hp).1; omega
                      · have := (ha3 p hp).1; omega
                      · have := h p hp; omega
                      · have := h p hp; omega
                    have HPW : Hid (F.p k < Wc.heap.size ∧ F.s k < Wc.heap.size) := by
                      have o := HSC.out.ords hk2
                      have l := HSC.out.lo
                      exact ⟨by omega, by omega⟩
                    have HI3 : Hid (IsT W3.drew a3 ol) := hi3'.below (Below.refl _ _).drew
                    have HIO : Hid (IsT W3.drew oa ol) := ((HTO.out.1.below HB0.out).below (hb3.mono (Nat.le_refl _))).below (Below.refl _ _).drew
                    have hsl : (rs k).length = N' := (HSC.out.sim k hk2).len
                    obtain ⟨er, her⟩ : ∃ er, hearE N' ol = er := ⟨_, rfl⟩
                    obtain ⟨e', he'⟩ : ∃ e', (if hearE N' ol = 0 then hearAll (es k) ol else es k) = e' := ⟨_, rfl⟩
                    obtain ⟨r', hr'⟩ : ∃ r', (if hearE N' ol = 0 then hearAllQ (rs k) ol else rs k) = r' := ⟨_, rfl⟩
                    have HSM : Hid (Sim N' e' r') := by (have := sim_hearR (HSC.out.sim k hk2) ol; rw [he', hr'] at this; exact this)
                    have K14 := fun W' (hT : Tk W' (F.p k) (Wh k) (N' : Int) (es k)) (hI : IsT W' a3 ol) => hear_all (c := c3) hT hN2 hI HAP.out.1
                    have K15 := fun W' (hR : Rk W' F.base (F.q k) (F.s k) (F.c k) (Wh k) (rs k)) (hI : IsT W' oa ol) => hear_doc (c := ock) hR hI HAP.out.2.2.1
                    rw [he', her] at K14
                    rw [hsl, hr', her] at K15
                    have ber : (er != er) = false := by simp
                    have HTD : Hid (Tk W3.drew (F.p k) (Wh k) (N' : Int) (es k)) := (HS3.out.tk k hk2).below (Below.refl _ _).drew
                    have HRD : Hid (Rk W3.drew F.base (F.q k) (F.s k) (F.c k) (Wh k) (rs k)) := (HS3.out.rk k hk2).below (Below.refl _ _).drew
                    have hBB3 : BB < W3.heap.size := Nat.lt_of_lt_of_le hBBc hW3
                    have XK : Hid (∀ W' X, Ko W3.drew W' X → BB ≠ X → W'.cell? ⟨BB, 6, none⟩ = some (.slice oa ol.length ock)) := fun W' X hk hne => cell_of_row _ _ 6 _ _ _ ((hk.2 BB hne hBB3).trans HBX3.out)
                    have XK2 : Hid (∀ W' W'' X Y, Ko W3.drew W' X → BB ≠ X → Ko W' W'' Y → BB ≠ Y → W''.cell? ⟨BB, 6, none⟩ = some (.slice oa ol.length ock)) := fun W' W'' X Y hk hne hk2 hne2 => cell_of_row _ _ 6 _ _ _ ((hk2.2 BB hne2 (Nat.lt_of_lt_of_le hBB3 hk.1)).trans ((hk.2 BB hne hBB3).trans HBX3.out))
                    clear her he' hr' hsl hown3 hgrow3 hi3' ha3 x0 x1 x2 x3 x4 x5 x6
                    have x6 := x63
                    go_region_held3 (fun W' => W'.cell? ⟨BB, 6, none⟩ = some (.slice oa ol.length ock)) (go_keep) (first
                      | (go_at_call 14; (with_reducible refine (K14 _ HTD.out HI3.out).mono ?_); rintro e w2 ⟨rfl, T2, k2⟩; have cz := XK.out _ _ k2 nB1)
                      | (go_at_call 15; (with_reducible refine (K15 _ (HRD.out.ko k2 nqp nsp) (isT_ko HIO.out k2 HAP.out.2.2.2)).mono ?_); rintro e w3 ⟨rfl, R3, k3⟩; have cy := XK2.out _ _ _ _ k2 nB1 k3 nB2; have HSX : Hid _ := HS3.out.upd hk2 ((kx_of ((ko_below (Below.refl _ _).drew).trans k2) k3)) (T2.ko k3 nps) R3 HSM.out; have HOX : Hid _ := (⟨_, own_ko (own_ko HOW.out ((ko_below (Below.refl _ _).drew).trans k2) HPW.out.1) k3 HPW.out.2⟩ : Own Wc.heap.size a3 ol.length c3 w3))
                      | (go_at_call 15; (with_reducible refine (K15 _ HRD.out HIO.out).mono ?_); rintro e w3 ⟨rfl, R3, k3⟩; have cz := XK.out _ _ k3 nB2)
                      | (go_at_call 14; (with_reducible refine (K14 _ (HTD.out.ko k3 nps) (HI3.out.ko k3 HAP.out.2.1)).mono ?_); rintro e w2 ⟨rfl, T2, k2⟩; have cy := XK2.out _ _ _ _ k3 nB2 k2 nB1; have HSX : Hid _ := HS3.out.upd hk2 ((kx_of' ((ko_below (Below.refl _ _).drew).trans k3) k2)) T2 (R3.ko k2 nqp nsp) HSM.out; have HOX : Hid _ := (⟨_, own_ko (own_ko HOW.out ((ko_below (Below.refl _ _).drew).trans k3) HPW.out.2) k2 HPW.out.1⟩ : Own Wc.heap.size a3 ol.length c3 w2)))
                    all_goals
                      have hbnd : ol.length ≤ 140737488355328 := (by have := HLB.out; omega)
                      go_wp2_with fail
                      go_loopw [29] (fun jv wr => ∃ j : Nat, jv = .int .i64 (j : Int) ∧ j ≤ ol.length ∧ St w N' Wh F (Lb.upd es k e') (Lb.upd rs k r') LL (fun g => BB ≤ g) wr ∧ Own Wc.heap.size a3 ol.length c3 wr) (fun jv _ => ol.length - (intOf jv).toNat)
                      case atStart => exact ⟨0, rfl, by omega, HSX.out, HOX.out⟩
                      case round =>
                        clear HSX HOX
                        obtain ⟨j, rfl, hj, hsj, hoj⟩ := hrel
                        by_cases hjl : j < ol.length
                        · have hjl' : (j : Int) < (ol.length : Int) := by omega
                          obtain ⟨gl, y0, y1, y2, y3, y4, rfl, hgl, z0, z1, z2, z3, z4, fz, cur, hcur⟩ := hoj.at hjl
                          have HSJ : Hid _ := hsj
                          have HOJ : Hid (Own Wc.heap.size (some ⟨gl, 0, none⟩) ol.length c3 wr) := hoj
                          have hBg : BB ≤ gl := by omega
                          have hb2g : F.b2 ≤ gl := by omega
                          clear hsj hoj
                          go_wp2
                          go_roundw
                          case rel => exact ⟨j + 1, by go_num, by omega, HSJ.out.zero (cur := cur) (((((ko_set _ gl _ _).trans (ko_set _ gl _ _)).trans (ko_set _ gl _ _)).trans (ko_set _ gl _ _)).trans (ko_set _ gl _ _)) hBg hcur hb2g, ((((HOJ.out.set _ _).set _ _).set _ _).set _ _).set _ _⟩
                          case measure => simp [intOf]; omega
                        · have hjl' : ¬ (j : Int) < (ol.length : Int) := by omega
                          have HSX : Hid _ := hsj
                          clear hsj hoj
                          go_wp2_with fail
                          go_meet
                          case rel => exact ⟨_, _, _, HSX.out.sub (fun _ h => h.elim), HLX.out⟩
                as_aux_lemma =>
                  have b1 : (o0 == 1) = false := by simp; omega
                  have b2 : (o0 == 2) = false := by simp; omega
                  have b3 : (o0 == 3) = false := by simp; omega
                  have b4 : (o0 == 4) = false := by simp; omega
                  have HSX : Hid (St w N' Wh F es rs LL (fun g => BB ≤ g) Wc) := HSC.out
                  clear h1 h2 h3 h4
                  go_wp2_with fail
                  go_meet
                  case rel => exact ⟨_, _, _, HSX.out.sub (fun _ h => h.elim), HLX.out⟩
              case rest =>
                as_aux_lemma =>
                  obtain ⟨es', rs', LL', hsc, hlc⟩ := hcut
                  have HSX : Hid (St w N' Wh F es' rs' LL' (fun _ => False) wc) := hsc
                  have HLX' : Hid (∀ k, k < 2 → (LL' k).length ≤ i + 1 ∧ ∀ l ∈ LL' k, l.length ≤ 20) := hlc
                  clear hsc hlc
                  go_wp2_with (first
                    | (go_at_call 16; (with_reducible refine (tell_st HSX.out hk2 hN2).mono ?_); rintro e w15 ⟨a5, c5, rfl, t5, hb5⟩; have HS5 : Hid _ := HSX.out.below hb5)
                    | (go_at_call 17; (with_reducible refine (tellD_st HS5.out hk2 hN2).mono ?_); rintro e w16 ⟨a6, c6, rfl, t6, hb6⟩; have HS6 : Hid _ := HS5.out.below hb6)
                    | (go_at_call 13; (with_reducible refine (same_told (t5.below hb6) t6).mono ?_); rintro e w17 ⟨rfl, hb7⟩; have HS7 : Hid _ := HS6.out.below hb7))
                  go_roundw
                  case rel => exact ⟨i + 1, _, _, _, by go_num, by omega, by omega, HS7.out.sub (fun _ h => h.elim), HLX'.out⟩
                  case measure => simp [intOf]; omega
            · clear HLL HLX HO
              have hbel := hst.bel
              clear hst
              by_cases hI : i < os.length
              · have hi1 : (i : Int) < (os.length : Int) := by omega
                have hi2 : ¬ (i : Int) < 300 := by omega
                go_wp2
                go_ret
                exact ⟨rfl, hbel⟩
              · have hi1 : ¬ (i : Int) < (os.length : Int) := by omega
                go_wp2
                go_ret
                exact ⟨rfl, hbel⟩
    · omega
end Go.Proofs.Ytmhgoddlbklbfaa.Lb
