/- isPlace, isRight: whether a line is right. Condition: the claims of which it comes are of literals; few numbers. -/
import Derived.Test.YtcnanbimpajonaaCs
import Derived.Test.YtcnanbimpajonaaCf
import Derived.Test.YtcnanbimpajonaaCe
namespace Go.Proofs.Ytcnanbimpajonaa.Ri
open Go.RowKit Cl Co Cp Nu Ag Cs Cf

/-- of which claim a number tells -/
def pickA (ps : List C) (A : List Ln) (r n : Int) : Option C := if n < 0 then none else if r = 1 then ps[n.toNat]? else (A[n.toNat]?).map fun l => l.2.1
/-- K2: is a line right, behind those ahead of it? -/
def soundL (ps : List C) (A : List Ln) (l : Ln) : Bool := match l.2.2.mapM (pickA ps A l.1) with
  | none => false
  | some of => if l.1 = 1 then of == [l.2.1] else comesP l.1 l.2.1 of
theorem mapM_len {f : Int → Option C} {l : List Int} {of : List C} (h : l.mapM f = some of) : of.length = l.length := by
  induction l generalizing of with
  | nil => simp at h; subst h; rfl
  | cons p l ih =>
    rw [List.mapM_cons] at h
    cases hp : f p with
    | none => rw [hp] at h; cases h
    | some i =>
      rw [hp] at h
      cases hl : l.mapM f with
      | none => rw [hl] at h; cases h
      | some fr' =>
        rw [hl] at h
        cases h
        simp [ih hl]
theorem mapM_none {f : Int → Option C} {l : List Int} {k : Nat} (hk : k < l.length) (h : f l[k] = none) : l.mapM f = none := by
  induction l generalizing k with
  | nil => simp at hk
  | cons p l ih =>
    cases k with
    | zero =>
      simp only [List.getElem_cons_zero] at h
      simp [List.mapM_cons, h]
    | succ k =>
      have := ih (k := k) (by simpa using hk) (by simpa using h)
      rw [List.mapM_cons, this]
      cases f p <;> rfl
theorem mapM_snoc {f : Int → Option C} {l : List Int} {p : Int} {of : List C} {c : C} (h : l.mapM f = some of) (hi : f p = some c) : (l ++ [p]).mapM f = some (of ++ [c]) := by
  rw [List.mapM_append, h]
  simp [List.mapM_cons, hi]
theorem mapM_mem {f : Int → Option C} {l : List Int} {of : List C} (h : l.mapM f = some of) {c : C} (hc : c ∈ of) : ∃ n, f n = some c := by
  induction l generalizing of with
  | nil => simp at h; subst h; cases hc
  | cons p l ih =>
    rw [List.mapM_cons] at h
    cases hp : f p with
    | none => rw [hp] at h; cases h
    | some i =>
      rw [hp] at h
      cases hl : l.mapM f with
      | none => rw [hl] at h; cases h
      | some fr' =>
        rw [hl] at h
        cases h
        rcases List.mem_cons.1 hc with rfl | hc
        · exact ⟨p, hp⟩
        · exact ih hl hc
theorem comesP_long {r : Int} {c : C} {of : List C} (h : 2 < of.length) : comesP r c of = false := by
  match of, h with
  | [], h => simp at h
  | [_], h => simp at h
  | [_, _], h => simp at h
  | _ :: _ :: _ :: _, _ => rfl
theorem sound_long {ps : List C} {A : List Ln} {r : Int} {c : C} {fr : List Int} (hr : r ≠ 1) (h : 2 < fr.length) : soundL ps A (r, c, fr) = false := by
  unfold soundL
  dsimp only
  cases hm : fr.mapM (pickA ps A r) with
  | none => rfl
  | some of =>
    dsimp only
    rw [if_neg hr, comesP_long (by rw [mapM_len hm]; exact h)]
theorem sound_one {ps : List C} {A : List Ln} {c : C} {fr : List Int} (h : fr.length ≠ 1) : soundL ps A (1, c, fr) = false := by
  unfold soundL
  dsimp only
  cases hm : fr.mapM (pickA ps A 1) with
  | none => rfl
  | some of =>
    dsimp only
    rw [if_pos rfl]
    cases he : (of == [c]) with
    | false => rfl
    | true =>
      have := eq_of_beq he
      have h2 := mapM_len hm
      rw [this] at h2
      exact absurd h2.symm h

/-- lines, to be read -/
def IsL (w : World) (v : Value) (Z : List (Ln × Value)) : Prop := Row w v 5 Z.length (zcs Z) ∧ ∀ z ∈ Z, IsI w z.2 z.1.2.2
theorem IsL.below {w w' : World} {v : Value} {Z : List (Ln × Value)} (h : IsL w v Z) (hb : Below w.heap.size w w') : IsL w' v Z := ⟨h.1.below hb, fun z hz => Row.below (h.2 z hz) hb⟩

def placeB (n : Int) (m : Nat) : Bool := decide (0 ≤ n) && decide (n < (m : Int))
theorem place_any (n : Int) (m : Nat) (w : World) : Calls Try.prog 39 #[.int .i64 n, .int .i64 (m : Int)] w fun e w' => e = .returned (.bool (placeB n m)) ∧ w' = w := by
  unfold placeB
  by_cases h1 : 0 ≤ n
  · by_cases h2 : n < (m : Int)
    · rw [decide_eq_true h1, decide_eq_true h2]
      go_enter Try.func39, Try.ntmps39
      go_wp2
      go_ret
      exact ⟨rfl, rfl⟩
    · rw [decide_eq_true h1, decide_eq_false h2]
      go_enter Try.func39, Try.ntmps39
      go_wp2
      go_ret
      exact ⟨rfl, rfl⟩
  · rw [decide_eq_false h1]
    go_enter Try.func39, Try.ntmps39
    go_wp2
    go_ret
    exact ⟨rfl, rfl⟩

theorem info24 : (Try.prog.info? 24).map (fun i => (i.zero, i.size, i.bytes)) = some (some (.agg #[.bool false, .int .i64 0, .int .i64 0]), 3, 24) := by kernel_rfl
theorem ccs_snoc (l : List C) (c : C) : ccs l ++ cc c = ccs (l ++ [c]) := by simp [ccs]
theorem cc_one (c : C) : ∀ u ∈ cc c, u.oneCell' = true := by
  intro u hu
  simp only [cc, List.mem_cons, List.not_mem_nil, or_false] at hu
  rcases hu with rfl | rfl | rfl <;> rfl
theorem cell_three_at (w : World) (g : Nat) (a b c : Value) (t : TypeId) (hg : g = w.heap.size) : ∀ j u, [a, b, c][j]? = some u → (w.alloc (.cells #[a, b, c] t)).cell? ((⟨g, 0, none⟩ : Addr).add j) = some u := by
  intro j u hj
  subst hg
  match j, hj with
  | 0, hj => simp at hj; subst hj; simp [Addr.add]
  | 1, hj => simp at hj; subst hj; simp [Addr.add]
  | 2, hj => simp at hj; subst hj; simp [Addr.add]
theorem own_isC {w : World} {base n : Nat} {v : Value} {of : List C} (h : w.ownsRow base 24 3 v n (ccs of)) (hn : n ≤ 140737488355328) : IsC w v of := by
  obtain ⟨hl, h⟩ := h
  rw [ccs_length] at hl
  have e : of.length = n := by omega
  subst e
  refine ⟨ccs_length of, ?_⟩
  rcases h with ⟨hv, h0⟩ | ⟨g, cap, cur, hv, _, hg, _, _, _, ht⟩
  · exact ⟨none, 0, by rw [hv, h0], hn, .inl h0⟩
  · refine ⟨_, cap, hv, hn, .inr ⟨g, 0, rfl, (Array.getElem?_eq_some_iff.1 hg).1, fun j u hu => ?_⟩⟩
    have hj := (List.getElem?_eq_some_iff.1 hu).1
    rw [ccs_length] at hj
    rw [Nat.zero_add, cell_of_row w g j cur 24 (0, 0) hg]
    rw [← ht, List.getElem?_take_of_lt hj, Array.getElem?_toList] at hu
    exact hu
theorem read5 {W : World} {b : Nat} {x0 x1 x2 x3 x4 : Value} (hb : W.heap[b]? = some (.cells #[x0, x1, x2, x3, x4] 38 (0, 0))) (p : After W) : p.W.cell? ⟨b, 0, none⟩ = some x0 ∧ p.W.cell? ⟨b, 1, none⟩ = some x1 ∧ p.W.cell? ⟨b, 2, none⟩ = some x2 ∧ p.W.cell? ⟨b, 3, none⟩ = some x3 ∧ p.W.cell? ⟨b, 4, none⟩ = some x4 := by
  have e := (p.h.block b (Array.getElem?_eq_some_iff.1 hb).1).trans hb
  exact ⟨cell_of_row _ _ 0 _ 38 (0, 0) e, cell_of_row _ _ 1 _ 38 (0, 0) e, cell_of_row _ _ 2 _ 38 (0, 0) e, cell_of_row _ _ 3 _ 38 (0, 0) e, cell_of_row _ _ 4 _ 38 (0, 0) e⟩
theorem one_beq (p0 c0 : Bool) (p1 p2 c1 c2 : Int) : ([(p0, p1, p2)] == [(c0, c1, c2)]) = (p0 == c0 && p1 == c1 && p2 == c2) := by
  rw [Bool.eq_iff_iff]
  simp [and_assoc]

set_option maxHeartbeats 4000000 in
set_option maxRecDepth 100000 in
theorem given_any (c0 : Bool) (c1 c2 : Int) (fr : List Int) (fv : Value) (ps : List C) (A : List Ln) (vp va : Value) (hva : ∃ a n k, va = .slice a n k) (w : World) (hf : IsI w fv fr) (hp : IsC w vp ps) :
    Calls Try.prog 24 #[.agg #[.int .i64 1, .bool c0, .int .i64 c1, .int .i64 c2, fv], vp, va] w fun e w' => e = .returned (.bool (soundL ps A (1, (c0, c1, c2), fr))) ∧ Below w.heap.size w w' := by
  obtain ⟨_, fa, fk, rfl, _, hfc⟩ := hf
  obtain ⟨_, pa, pk, rfl, hpb, hpc⟩ := hp
  obtain ⟨aa, an, ak, rfl⟩ := hva
  have hb0 : Below w.heap.size w (w.alloc (.cells #[.int .i64 1, .bool c0, .int .i64 c1, .int .i64 c2, .slice fa fr.length fk] 38)) := (Below.refl _ w).alloc (Nat.le_refl _) _
  have HB : Hid _ := hb0
  have r1 := read5 (heap_alloc_new w (.cells #[.int .i64 1, .bool c0, .int .i64 c1, .int .i64 c2, .slice fa fr.length fk] 38))
  haveI : Inhabited (After (w.alloc (.cells #[.int .i64 1, .bool c0, .int .i64 c1, .int .i64 c2, .slice fa fr.length fk] 38))) := ⟨⟨_, Below.refl _ _⟩⟩
  have hcell : ∀ (p : After (w.alloc (.cells #[.int .i64 1, .bool c0, .int .i64 c1, .int .i64 c2, .slice fa fr.length fk] 38))) (b j : Nat), b < w.heap.size → p.W.cell? ⟨b, j, none⟩ = w.cell? ⟨b, j, none⟩ := fun p b j hb => (p.h.cell (p := ⟨b, j, none⟩) (Nat.lt_of_lt_of_le hb hb0.size)).trans (hb0.cell (p := ⟨b, j, none⟩) hb)
  have hq := eql24
  by_cases h1 : fr.length = 1
  · obtain ⟨n, rfl⟩ : ∃ n, fr = [n] := by
      match fr, h1 with
      | [n], _ => exact ⟨n, rfl⟩
    obtain ⟨fb, fo, rfl, hfb, hfcs⟩ := hfc.resolve_left (by simp)
    have r2 : ∀ p : After (w.alloc (.cells #[.int .i64 1, .bool c0, .int .i64 c1, .int .i64 c2, .slice (some ⟨fb, fo, none⟩) [n].length fk] 38)), p.W.cell? ⟨fb, fo, none⟩ = some (.int .i64 n) := fun p => (hcell p fb fo hfb).trans (hfcs 0 _ rfl)
    have k30 := fun p : After (w.alloc (.cells #[.int .i64 1, .bool c0, .int .i64 c1, .int .i64 c2, .slice (some ⟨fb, fo, none⟩) [n].length fk] 38)) => (place_any n ps.length p.W).mono (R' := fun e w' => e = .returned (.bool (placeB n ps.length)) ∧ Below p.W.heap.size p.W w') fun e w' ⟨a1, a2⟩ => ⟨a1, by rw [a2]; exact Below.refl _ _⟩
    have hsd : soundL ps A (1, (c0, c1, c2), [n]) = match pickA ps A 1 n with | none => false | some p => [p] == [(c0, c1, c2)] := by
      unfold soundL
      simp only [List.mapM_cons, List.mapM_nil]
      cases pickA ps A 1 n <;> rfl
    simp only [List.length_singleton] at r1 r2 k30 HB hcell this ⊢
    by_cases hpl : placeB n ps.length = true
    · rw [hpl] at k30
      unfold placeB at hpl
      simp only [Bool.and_eq_true, decide_eq_true_eq] at hpl
      obtain ⟨m, rfl⟩ : ∃ m : Nat, n = (m : Int) := ⟨n.toNat, by omega⟩
      have hm : m < ps.length := by omega
      obtain ⟨pb, po, rfl, hpbl, hpcs⟩ := hpc.resolve_left (by omega)
      have hat := ccs_at ps m hm
      obtain ⟨⟨p0, p1, p2⟩, hpm⟩ : ∃ p, ps[m] = p := ⟨_, rfl⟩
      rw [hpm] at hat
      have r3 : ∀ p : After (w.alloc (.cells #[.int .i64 1, .bool c0, .int .i64 c1, .int .i64 c2, .slice (some ⟨fb, fo, none⟩) 1 fk] 38)), p.W.cell? ⟨pb, po + m * 3, none⟩ = some (.bool p0) ∧ p.W.cell? ⟨pb, po + m * 3 + 1, none⟩ = some (.int .i64 p1) ∧ p.W.cell? ⟨pb, po + m * 3 + 2, none⟩ = some (.int .i64 p2) := fun p => ⟨(hcell p pb _ hpbl).trans (hpcs _ _ hat.1), (hcell p pb _ hpbl).trans (hpcs _ _ hat.2.1), (hcell p pb _ hpbl).trans (hpcs _ _ hat.2.2)⟩
      have HE : Hid (soundL ps A (1, (c0, c1, c2), [(m : Int)]) = (p0 == c0 && p1 == c1 && p2 == c2)) := by
        show soundL ps A (1, (c0, c1, c2), [(m : Int)]) = (p0 == c0 && p1 == c1 && p2 == c2)
        have e : pickA ps A 1 (m : Int) = some (p0, p1, p2) := by
          unfold pickA
          rw [if_neg (by omega), if_pos rfl, Int.toNat_natCast, List.getElem?_eq_getElem hm, hpm]
        rw [hsd, e]
        exact one_beq p0 c0 p1 p2 c1 c2
      clear hfcs hpcs hat hpm hfc hpc hcell hsd hb0 h1
      go_enter Try.func24, Try.ntmps24
      go_wp2_with fail
      refine wp_region_after (by kernel_rfl) (by kernel_rfl) ?_
      repeat (go_big_quiet_step (first | (go_at_call 39; refine after_of (k30 _)) | fail))
      refine wpQuiet_nil ?_
      intro W hw'
      obtain ⟨⟨W, hW⟩, rfl⟩ := hw'
      clear r1 r2 r3 k30
      go_wp2
      go_ret
      rw [HE.out]
      exact ⟨rfl, HB.out.trans (hW.mono HB.out.size)⟩
    · have hpl' : placeB n ps.length = false := by simpa using hpl
      rw [hpl'] at k30
      have HE : Hid (soundL ps A (1, (c0, c1, c2), [n]) = false) := by
        show soundL ps A (1, (c0, c1, c2), [n]) = false
        have e : pickA ps A 1 n = none := by
          unfold pickA
          unfold placeB at hpl'
          by_cases hn : n < 0
          · rw [if_pos hn]
          · rw [if_neg hn, if_pos rfl]
            simp at hpl'
            rw [List.getElem?_eq_none (by omega)]
        rw [hsd, e]
      clear hfcs hfc hpc hcell hsd hb0 h1 hpl hpl'
      go_enter Try.func24, Try.ntmps24
      go_wp2_with fail
      refine wp_region_after (by kernel_rfl) (by kernel_rfl) ?_
      repeat (go_big_quiet_step (first | (go_at_call 39; refine after_of (k30 _)) | fail))
      refine wpQuiet_nil ?_
      intro W hw'
      obtain ⟨⟨W, hW⟩, rfl⟩ := hw'
      clear r1 r2 k30
      go_wp2
      go_ret
      rw [HE.out]
      exact ⟨rfl, HB.out.trans (hW.mono HB.out.size)⟩
  · have HE : Hid _ := sound_one (ps := ps) (A := A) (c := (c0, c1, c2)) h1
    have d1 : ((fr.length : Int) == 1) = false := by simp; omega
    clear hfc hpc hcell hb0
    go_enter Try.func24, Try.ntmps24
    go_wp2_with fail
    refine wp_region_after (by kernel_rfl) (by kernel_rfl) ?_
    repeat (go_big_quiet_step (fail))
    refine wpQuiet_nil ?_
    intro W hw'
    obtain ⟨⟨W, hW⟩, rfl⟩ := hw'
    clear r1
    go_wp2
    go_ret
    rw [HE.out]
    exact ⟨rfl, HB.out.trans (hW.mono HB.out.size)⟩
end Go.Proofs.Ytcnanbimpajonaa.Ri
