/- The document's ProofSize: how many steps, and whether a left is too long. Condition: the bound is at most 1000. -/
import Derived.Test.YtbmgkgoghgdbhaaRh
namespace Go.Proofs.Ytbmgkgoghgdbhaa.Te
open Go.RowKit

/-- what is known of the longest left when j proofs in it have been looked at -/
def LJ (q : Pf) (j m : Nat) (L : Int) : Prop := psp q j ≤ m → (20 < L ↔ (20 < q.left.length ∨ ∃ i, ∃ h : i < q.kids.length, i < j ∧ lgp q.kids[i] = true))
theorem LJ.zero (q : Pf) (m : Nat) : LJ q 0 m (q.left.length : Int) := fun _ => ⟨fun h => .inl (by omega), fun h => by
  rcases h with h | ⟨i, _, h, _⟩
  · omega
  · omega⟩
theorem LJ.step {q : Pf} {j m : Nat} {L l : Int} (h : LJ q j m L) (hj : j < q.kids.length) (hk : szp q.kids[j] ≤ m - psp q j → (20 < l ↔ lgp q.kids[j] = true)) : LJ q (j + 1) m (if L < l then l else L) := fun hm => by
  rw [psp_succ hj] at hm
  have h1 := h (by omega)
  have h2 := hk (by omega)
  have e : (20 < (if L < l then l else L)) ↔ (20 < L ∨ 20 < l) := by split <;> omega
  rw [e, h1, h2]
  constructor
  · rintro ((h | ⟨i, hi, hij, h⟩) | h)
    · exact .inl h
    · exact .inr ⟨i, hi, by omega, h⟩
    · exact .inr ⟨j, hj, by omega, h⟩
  · rintro (h | ⟨i, hi, hij, h⟩)
    · exact .inl (.inl h)
    · by_cases e : i = j
      · subst e; right; assumption
      · exact .inl (.inr ⟨i, hi, by omega, by assumption⟩)
theorem LJ.done {q : Pf} {m : Nat} {L : Int} (h : LJ q q.kids.length m L) (hm : szp q ≤ m) : 20 < L ↔ lgp q = true := by
  rw [h (by rw [psp_all]; exact hm), lgp, Bool.or_eq_true, decide_eq_true_iff, List.any_eq_true]
  constructor
  · rintro (h | ⟨i, hi, _, h⟩)
    · exact .inl h
    · exact .inr ⟨true, List.mem_map.2 ⟨_, List.getElem_mem hi, h⟩, rfl⟩
  · rintro (h | ⟨b, hb, h⟩)
    · exact .inl h
    · obtain ⟨x, hx, rfl⟩ := List.mem_map.1 hb
      obtain ⟨i, hi, rfl⟩ := List.getElem_of_mem hx
      exact .inr ⟨i, hi, hi, h⟩
def PsQ (p : Pf) (m : Nat) (w : World) (en : Ending) (w' : World) : Prop := ∃ L : Int, en = .returned (.tuple #[.int .i64 (cap (szp p) m : Nat), .int .i64 L]) ∧ (szp p ≤ m → (20 < L ↔ lgp p = true)) ∧ Below w.heap.size w w'
set_option maxRecDepth 100000 in
set_option maxHeartbeats 2000000 in
theorem psize_any : ∀ (e : Nat) {P : Nat → Prop} {d : Nat} (p : Pf) (x : Pl) (w : World) (m : Nat), PfAt P w d e p x → m ≤ 1000 → Calls Try.prog 49 #[vpf p x, .int .i64 (m : Int)] w fun en w' => PsQ p m w en w' := by
  intro e
  induction e with
  | zero => intro P d p x w m h; exact h.elim
  | succ e ih =>
    intro P d p x w m h hm
    obtain ⟨_, _, _, hL, _, hfew, hK⟩ := h
    have hlb := hL.1.2.2.1
    obtain ⟨q, hq⟩ : ∃ q, p = q := ⟨_, rfl⟩
    have hl0 := LJ.zero q m
    have hql : q.left.length = p.left.length := by rw [← hq]
    have hqk : q.kids = p.kids := by rw [← hq]
    rw [hql] at hl0
    obtain ⟨step, left, goal, ix, n, kids⟩ := p
    obtain ⟨la, lc, ga, gc, ka, kc⟩ := x
    dsimp only at hfew hK hqk hlb hl0
    have HQK : Hid (q.kids = kids) := hqk
    have HQ : Hid ((⟨step, left, goal, ix, n, kids⟩ : Pf) = q) := hq
    have HL0 : Hid (LJ q 0 m (left.length : Int)) := hl0
    have HK : Hid (KidsAt P w d e kids ka) := hK
    have IH : Hid (∀ {P : Nat → Prop} {d : Nat} (p : Pf) (x : Pl) (w : World) (m : Nat), PfAt P w d e p x → m ≤ 1000 → Calls Try.prog 49 #[vpf p x, .int .i64 (m : Int)] w fun en w' => PsQ p m w en w') := ih
    clear hq hK hL hqk hql hl0 ih
    unfold vpf
    dsimp only
    go_enter Try.func49, Try.ntmps49
    go_upto_region 1 with fail
    have hVb : Below w.heap.size w (w.alloc (.cells #[.int .i64 step, .slice la left.length lc, .int .i64 goal.kind, .int .i64 goal.n, .slice ga goal.kids.length gc, .int .i64 ix, .int .i64 n, .slice ka kids.length kc] 37)) := (Below.refl _ w).alloc (Nat.le_refl _) _
    have x1 := heap_alloc_new w (.cells #[.int .i64 step, .slice la left.length lc, .int .i64 goal.kind, .int .i64 goal.n, .slice ga goal.kids.length gc, .int .i64 ix, .int .i64 n, .slice ka kids.length kc] 37)
    generalize hV : w.alloc (.cells #[.int .i64 step, .slice la left.length lc, .int .i64 goal.kind, .int .i64 goal.n, .slice ga goal.kids.length gc, .int .i64 ix, .int .i64 n, .slice ka kids.length kc] 37) = V at *
    clear hV
    have i1 := cell_of_row _ _ 1 _ _ _ x1
    go_quiet (fail)
    go_wp2
    clear i1
    go_loopw [6, 7, 8, 9, 10] (fun nv lv iv _ _ wr => ∃ (j : Nat) (L : Int), iv = .int .i64 (j : Int) ∧ nv = .int .i64 (cap (psp q j) m : Nat) ∧ lv = .int .i64 L ∧ LJ q j m L ∧ j ≤ kids.length ∧ Below w.heap.size w wr ∧ wr.heap[w.heap.size]? = some (.cells #[.int .i64 step, .slice la left.length lc, .int .i64 goal.kind, .int .i64 goal.n, .slice ga goal.kids.length gc, .int .i64 ix, .int .i64 n, .slice ka kids.length kc] 37 (0, 0))) (fun _ _ iv _ _ _ => kids.length - (intOf iv).toNat)
    case atStart => exact ⟨0, _, rfl, by rw [psp_zero, cap_one]; rfl, rfl, HL0.out, by omega, below_drewN hVb _, x1⟩
    case round =>
      obtain ⟨j, L, rfl, rfl, rfl, hJ, hj, hB, z1⟩ := hrel
      have HJ : Hid (LJ q j m L) := hJ
      have i7 := cell_of_row _ _ 7 _ _ _ z1
      have hle := psp_le q j
      clear hJ
      by_cases hjl : j < kids.length
      · have hjl' : (j : Int) < (kids.length : Int) := by omega
        by_cases hpm : psp q j ≤ m
        · obtain ⟨kg, ko, rfl, hkg, _, hkk⟩ : ∃ g off, ka = some ⟨g, off, none⟩ ∧ g < wr.heap.size ∧ P g ∧ ∀ j (h : j < kids.length), ∃ y, C8 wr g (off + j * 8) kids[j] y ∧ PfAt P wr d e kids[j] y := by
            rcases HK.out.below hB with h | h
            · omega
            · exact h
          obtain ⟨y, hc8, hpk⟩ := hkk j hjl
          obtain ⟨c0, c1, c2, c3, c4, c5, c6, c7⟩ := hc8
          have hj2 : j < q.kids.length := by rw [HQK.out]; exact hjl
          have HR : Hid (cap (psp q (j + 1)) m = psp q j + cap (szp kids[j]) (m - psp q j)) := by
            show cap (psp q (j + 1)) m = _
            rw [cap_step hpm, psp_succ (t := q) hj2]
            simp only [HQK.out]
          have HST : Hid (∀ l : Int, (szp kids[j] ≤ m - psp q j → (20 < l ↔ lgp kids[j] = true)) → LJ q (j + 1) m (if L < l then l else L)) := fun l hl => HJ.out.step hj2 (by simp only [HQK.out]; exact hl)
          have hsc := cap_bound (szp kids[j]) (m - psp q j)
          rw [cap_le hpm]
          have K49 := IH.out kids[j] y wr (m - psp q j) hpk (by omega)
          unfold vpf at K49
          clear hle hpk hkk HJ
          generalize psp q j = p at *
          have hpm' : (p : Int) ≤ (m : Int) := by omega
          have hw1 : IntKind.i64.wrap ((m : Int) - (p : Int)) = ((m - p : Nat) : Int) := by rw [wrap_id (by omega) (by omega)]; omega
          go_upto_region 6 with (go_at_call 49; (with_reducible refine K49.mono ?_); rintro e1 w2 ⟨l, rfl, hl, hb2⟩; clear K49)
          have HST2 := HST.out l hl
          have HS3 : Hid (LJ q (j + 1) m (if L < l then l else L)) := HST2
          clear HST2 hl HST
          generalize cap (szp kids[j]) (m - p) = r at *
          have z2 := (hb2.block _ (lt_of_get z1)).trans z1
          have hB2 := hB.trans (hb2.mono hB.size)
          by_cases hLl : L < l
          · have HS4 : Hid (LJ q (j + 1) m l) := by have := HS3.out; rw [if_pos hLl] at this; exact this
            go_wp2
            go_roundw
            case rel => exact ⟨j + 1, l, by go_num, by rw [HR.out]; simp, rfl, HS4.out, by omega, hB2, z2⟩
            case measure => simp [intOf]; omega
          · have HS4 : Hid (LJ q (j + 1) m L) := by have := HS3.out; rw [if_neg hLl] at this; exact this
            go_wp2
            go_roundw
            case rel => exact ⟨j + 1, L, by go_num, by rw [HR.out]; simp, rfl, HS4.out, by omega, hB2, z2⟩
            case measure => simp [intOf]; omega
        · obtain ⟨e1, e2⟩ := cap_stop hpm hle
          rw [e1]
          have HE2 : Hid (cap (szp q) m = m + 1) := e2
          have HNO : Hid (¬ szp q ≤ m) := by show ¬ szp q ≤ m; omega
          have hpm' : ¬ ((m + 1 : Nat) : Int) ≤ (m : Int) := by omega
          have hpm2 : (m : Int) < ((m + 1 : Nat) : Int) := by omega
          have hw1 : IntKind.i64.wrap ((m : Int) + 1) = ((m + 1 : Nat) : Int) := by rw [wrap_id (by omega) (by omega)]; omega
          clear e1 e2 hle hpm
          go_wp2
          go_ret2
          rw [HQ.out]
          exact ⟨L, by rw [HE2.out]; rfl, fun h => absurd h HNO.out, hB⟩
      · have hjl' : ¬ (j : Int) < (kids.length : Int) := by omega
        have ej : j = q.kids.length := by rw [HQK.out]; omega
        have es : psp q j = szp q := by rw [ej]; exact psp_all q
        have HD : Hid (szp q ≤ m → (20 < L ↔ lgp q = true)) := fun h => by
          have := HJ.out
          rw [ej] at this
          exact this.done h
        rw [es]
        have hcb := cap_bound (szp q) m
        obtain ⟨cc, hcc⟩ : ∃ cc, cap (szp q) m = cc := ⟨_, rfl⟩
        rw [hcc] at hcb ⊢
        have HCC : Hid (cap (szp q) m = cc) := hcc
        clear es ej hle hcc HJ
        by_cases hc : m < cc
        · have hc' : (m : Int) < (cc : Int) := by omega
          have hw1 : IntKind.i64.wrap ((m : Int) + 1) = (cc : Int) := by rw [wrap_id (by omega) (by omega)]; omega
          go_wp2
          go_ret2
          rw [HQ.out]
          exact ⟨L, by rw [HCC.out]; rfl, HD.out, hB⟩
        · have hc' : ¬ (m : Int) < (cc : Int) := by omega
          go_wp2
          go_ret2
          rw [HQ.out]
          exact ⟨L, by rw [HCC.out]; rfl, HD.out, hB⟩
end Go.Proofs.Ytbmgkgoghgdbhaa.Te
