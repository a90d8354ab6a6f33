/- SpellFars: at any two texts and any list of edits as they lie in memory the law returns true. Conditions: each text has at most 1048576 bytes, and there are at most 1048576 edits. -/
import Derived.Test.YtiiheaopamjijaaDp
import Derived.Test.YtiiheaopamjijaaPx
import Derived.Test.YtiiheaopamjijaaBe
import Derived.Test.YtiiheaopamjijaaWy
import Derived.Test.YtiiheaopamjijaaFr
namespace Go.Proofs.Ytiiheaopamjijaa.Sf
open Go.RowKit Rw Rv Wf Dr Ed Dp Bo Ap Fa Wy Pw Px

theorem way_well (a b : ByteArray) (h : fits a b = true) : ∀ e ∈ wayE a b, e.2.size ≤ 1048576 := by
  have hl : (tx a).length ≤ 200 ∧ (tx b).length ≤ 200 := by simpa [fits] using h
  have h1 := do_way a b h
  rw [do_plain a _ hl.1] at h1
  have hA : allWell (wayE a b) = true := by
    by_cases hA : allWell (wayE a b) = true
    · exact hA
    · rw [if_neg (fun hh => hA hh.1)] at h1
      simp at h1
  have : ∀ L : List (Int × ByteArray), allWell L = true → ∀ e ∈ L, e.2.size ≤ 1048576 := by
    intro L
    induction L with
    | nil => intro _ e he; simp at he
    | cons x xs ih =>
      intro hx e he
      simp only [allWell, Bool.and_eq_true] at hx
      rcases List.mem_cons.1 he with rfl | he
      · have := well_size _ _ hx.1
        omega
      · exact ih hx.2 e he
  exact this _ hA
theorem beq_self (s : ByteArray) : (s.toList == s.toList) = true := by simp

set_option maxHeartbeats 4000000 in
set_option maxRecDepth 100000 in
theorem walk_long (a b : ByteArray) (v : Value) (L : List (Int × ByteArray)) (w : World) (ha : a.size ≤ 1048576) (hb : b.size ≤ 1048576) (h : Row w v 2 L.length (ecs L)) (hs : ∀ e ∈ L, e.2.size ≤ 1048576) (hL : L.length ≤ 1048576) (hf : fits a b = false) :
    Calls Try.prog 3 #[.string a, .string b, v] w fun e w' => e = .returned (.bool true) ∧ Below w.heap.size w w' := by
  have c4 := fun W => Fa.far_any a b W
  have c5 : ∀ W, Calls Try.prog 5 #[.string a, .string b] W fun e w' => e = .returned (.tuple #[.slice none 0 0, .int .i64 2]) ∧ Below W.heap.size W w' := by
    intro W
    refine (way_any a b W).mono ?_
    rintro e w' ⟨y, rfl, _, hy, hb⟩
    refine ⟨?_, hb⟩
    rw [hy hf, hf]
    rfl
  have c6 := fun W => Ty.texts_any a W ha
  have c6' := fun W => Ty.texts_any b W hb
  have c7 := fun W (hW : Below w.heap.size w W) => Dp.do_any a v L W (h.below (Nat.le_refl _) hW) hL
  have c8 := fun W (hW : Below w.heap.size w W) => Dr.do_any a v L W ha (h.below (Nat.le_refl _) hW) hs
  have c9 := fun W => Be.begun_any W
  simp only [hf, Bool.false_eq_true, if_false] at c4
  obtain ⟨S, X, hSX⟩ : ∃ S X, doE a L = (S, X) := ⟨_, _, rfl⟩
  rw [hSX] at c7 c8
  have hbs := beq_self S
  by_cases hla : (tx a).length ≤ 200
  · have d1 : decide ((200 : Int) < ((tx a).length : Int)) = false := decide_eq_false (by omega)
    have hlb : ¬ (tx b).length ≤ 200 := by
      intro hlb
      simp [fits, hla, hlb] at hf
    have d2 : decide ((200 : Int) < ((tx b).length : Int)) = true := decide_eq_true (by omega)
    clear hla hlb
    go_enter Try.func3, Try.ntmps3
    go_wp2_with (first
      | (go_at_call 4; with_reducible refine (c4 _).mono ?_; rintro e w1 ⟨rfl, b1⟩)
      | (go_at_call 5; with_reducible refine (c5 _).mono ?_; rintro e w2 ⟨rfl, b2⟩; have B2 := b1.trans (b2.mono b1.size))
      | (go_at_call 6; with_reducible refine (c6 _).mono ?_; rintro e w3 ⟨p, rfl, hp, b3⟩; obtain ⟨pa, pc, rfl, hpc⟩ := hp.len; have B3 := B2.trans (b3.mono B2.size))
      | (go_at_call 6; with_reducible refine (c6' _).mono ?_; rintro e w4 ⟨q, rfl, hq, b4⟩; obtain ⟨qa, qc, rfl, hqc⟩ := hq.len; have B4 := B3.trans (b4.mono B3.size))
      | (go_at_call 7; with_reducible refine (c7 _ B4).mono ?_; rintro e w5 ⟨rfl, b5⟩; have B5 := B4.trans (b5.mono B4.size))
      | (go_at_call 8; with_reducible refine (c8 _ B5).mono ?_; rintro e w6 ⟨rfl, b6⟩; have B6 := B5.trans (b6.mono B5.size))
      | (go_at_call 9; with_reducible refine (c9 _).mono ?_; rintro e w7 ⟨rfl, b7⟩; have B7 := B6.trans (b7.mono B6.size)))
    go_ret
    exact ⟨rfl, B7⟩
  · have d1 : decide ((200 : Int) < ((tx a).length : Int)) = true := decide_eq_true (by omega)
    clear hla
    go_enter Try.func3, Try.ntmps3
    go_wp2_with (first
      | (go_at_call 4; with_reducible refine (c4 _).mono ?_; rintro e w1 ⟨rfl, b1⟩)
      | (go_at_call 5; with_reducible refine (c5 _).mono ?_; rintro e w2 ⟨rfl, b2⟩; have B2 := b1.trans (b2.mono b1.size))
      | (go_at_call 6; with_reducible refine (c6 _).mono ?_; rintro e w3 ⟨p, rfl, hp, b3⟩; obtain ⟨pa, pc, rfl, hpc⟩ := hp.len; have B3 := B2.trans (b3.mono B2.size))
      | (go_at_call 6; with_reducible refine (c6' _).mono ?_; rintro e w4 ⟨q, rfl, hq, b4⟩; obtain ⟨qa, qc, rfl, hqc⟩ := hq.len; have B4 := B3.trans (b4.mono B3.size))
      | (go_at_call 7; with_reducible refine (c7 _ B4).mono ?_; rintro e w5 ⟨rfl, b5⟩; have B5 := B4.trans (b5.mono B4.size))
      | (go_at_call 8; with_reducible refine (c8 _ B5).mono ?_; rintro e w6 ⟨rfl, b6⟩; have B6 := B5.trans (b6.mono B5.size))
      | (go_at_call 9; with_reducible refine (c9 _).mono ?_; rintro e w7 ⟨rfl, b7⟩; have B7 := B6.trans (b7.mono B6.size)))
    go_ret
    exact ⟨rfl, B7⟩

theorem cost_drop (W : List (Int × ByteArray)) (m : Nat) (h : m < W.length) : cost (W.drop m) = (if W[m].1 = 1 then 0 else 1) + cost (W.drop (m + 1)) := by
  rw [List.drop_eq_getElem_cons h, cost_cons]

set_option maxHeartbeats 4000000 in
set_option maxRecDepth 100000 in
theorem walk_fits (a b : ByteArray) (v : Value) (L : List (Int × ByteArray)) (w : World) (ha : a.size ≤ 1048576) (hb : b.size ≤ 1048576) (h : Row w v 2 L.length (ecs L)) (hs : ∀ e ∈ L, e.2.size ≤ 1048576) (hL : L.length ≤ 1048576) (hf : fits a b = true) :
    Calls Try.prog 3 #[.string a, .string b, v] w fun e w' => e = .returned (.bool true) ∧ Below w.heap.size w w' := by
  have hl : (tx a).length ≤ 200 ∧ (tx b).length ≤ 200 := by simpa [fits] using hf
  have c4 := fun W => Fa.far_any a b W
  have c5 : ∀ W, Calls Try.prog 5 #[.string a, .string b] W fun e w' => ∃ v, e = .returned (.tuple #[v, .int .i64 0]) ∧ Row w' v 2 (wayE a b).length (ecs (wayE a b)) ∧ Below W.heap.size W w' := by
    intro W
    refine (way_any a b W).mono ?_
    rintro e w' ⟨y, rfl, hy, _, hb⟩
    refine ⟨y, ?_, hy hf, hb⟩
    rw [hf]
    rfl
  have c6 := fun W => Ty.texts_any a W ha
  have c6' := fun W => Ty.texts_any b W hb
  have c7 := fun W (hW : Below w.heap.size w W) => Dp.do_any a v L W (h.below (Nat.le_refl _) hW) hL
  have c8 := fun W (hW : Below w.heap.size w W) => Dr.do_any a v L W ha (h.below (Nat.le_refl _) hW) hs
  have c8' := fun W y (hy : Row W y 2 (wayE a b).length (ecs (wayE a b))) => Dr.do_any a y (wayE a b) W ha hy (way_well a b hf)
  rw [do_way a b hf] at c8'
  have c9 := fun W => Be.begun_any W
  have c10 := fun W p q (hp : IsZ W p (tx a)) (hq : IsZ W q (tx b)) => Fr.far_any p q (tx a) (tx b) W hp hq hl.1 hl.2
  have hcost := cost_way a b
  have hfar : rowOf (tx b) (tx a) (tx b).length = farP a b := rfl
  rw [hfar] at c10
  simp only [hf, if_true] at c4
  obtain ⟨S, X, hSX⟩ : ∃ S X, doE a L = (S, X) := ⟨_, _, rfl⟩
  rw [hSX] at c7 c8
  have hbs := beq_self S
  have hbb := beq_self b
  have d1 : decide ((200 : Int) < ((tx a).length : Int)) = false := decide_eq_false (by omega)
  have d2 : decide ((200 : Int) < ((tx b).length : Int)) = false := decide_eq_false (by omega)
  generalize wayE a b = WY at c5 c8' hcost
  generalize farP a b = FP at c4 c10 hcost
  clear hl hfar hSX hs hf
  go_enter Try.func3, Try.ntmps3
  go_wp2_with (first
    | (go_at_call 4; with_reducible refine (c4 _).mono ?_; rintro e w1 ⟨rfl, b1⟩)
    | (go_at_call 5; with_reducible refine (c5 _).mono ?_; rintro e w2 ⟨y, rfl, hy, b2⟩; have B2 := b1.trans (b2.mono b1.size))
    | (go_at_call 6; with_reducible refine (c6 _).mono ?_; rintro e w3 ⟨p, rfl, hp, b3⟩; obtain ⟨pa, pc, rfl, hpc⟩ := hp.len; have B3 := B2.trans (b3.mono B2.size); have hy3 := hy.below (Nat.le_refl _) b3)
    | (go_at_call 6; with_reducible refine (c6' _).mono ?_; rintro e w4 ⟨q, rfl, hq, b4⟩; obtain ⟨qa, qc, rfl, hqc⟩ := hq.len; have B4 := B3.trans (b4.mono B3.size); have hy4 := hy3.below (Nat.le_refl _) b4; have hp4 := hp.below b4)
    | (go_at_call 7; with_reducible refine (c7 _ B4).mono ?_; rintro e w5 ⟨rfl, b5⟩; have B5 := B4.trans (b5.mono B4.size); have hy5 := hy4.below (Nat.le_refl _) b5; have hp5 := hp4.below b5; have hq5 := hq.below b5)
    | (go_at_call 8; with_reducible refine (c8 _ B5).mono ?_; rintro e w6 ⟨rfl, b6⟩; have B6 := B5.trans (b6.mono B5.size); have hy6 := hy5.below (Nat.le_refl _) b6; have hp6 := hp5.below b6; have hq6 := hq5.below b6)
    | (go_at_call 9; with_reducible refine (c9 _).mono ?_; rintro e w7 ⟨rfl, b7⟩; have B7 := B6.trans (b7.mono B6.size); have hy7 := hy6.below (Nat.le_refl _) b7; have hp7 := hp6.below b7; have hq7 := hq6.below b7)
    | (go_at_call 8; with_reducible refine (c8' _ _ hy7).mono ?_; rintro e w8 ⟨rfl, b8⟩; have B8 := B7.trans (b8.mono B7.size); have hy8 := hy7.below (Nat.le_refl _) b8; have hp8 := hp7.below b8; have hq8 := hq7.below b8))
  clear c4 c5 c6 c6' c7 c8 c8' c9 hy hy3 hy4 hy5 hy6 hy7 hp hp4 hp5 hp6 hp7 hq hq5 hq6 hq7 b1 b2 b3 b4 b5 b6 b7 b8 B2 B3 B4 B5 B6 B7
  obtain ⟨_, av, cv, rfl, hn1, hn2, hn3, hcell⟩ := hy8
  go_loopw [17, 18] (fun s17 s18 wr => ∃ (c m : Nat), s17 = .int .i64 c ∧ s18 = .int .i64 m ∧ m ≤ WY.length ∧ c ≤ m ∧ cost (WY.drop m) + c = cost WY ∧ Below w8.heap.size w8 wr) (fun _ s18 _ => WY.length - (intOf s18).toNat)
  case atStart => exact ⟨0, 0, rfl, rfl, by omega, by omega, by simp, Below.refl _ _⟩
  case round =>
    obtain ⟨c, m, rfl, rfl, hm, hcm, hct, RB⟩ := hrel
    by_cases hlt : m < WY.length
    · obtain ⟨bb, off, rfl, hbl, hcs⟩ : ∃ b off, av = some ⟨b, off, none⟩ ∧ b < w8.heap.size ∧ ∀ j u, (ecs WY)[j]? = some u → w8.cell? ⟨b, off + j, none⟩ = some u := by
        rcases hcell with hc0 | ⟨b, off, h1, h2, h3⟩
        · omega
        · exact ⟨b, off, h1, h2, h3⟩
      have gg := ecs_at WY m hlt
      have p0 := (RB.cell (p := ⟨bb, off + m * 2, none⟩) hbl).trans (hcs _ _ gg.1)
      rw [cost_drop WY m hlt] at hct
      obtain ⟨⟨k, s⟩, hks⟩ : ∃ e, WY[m] = e := ⟨_, rfl⟩
      rw [hks] at p0 hct
      dsimp only at p0 hct
      clear gg hcs hks hcell
      by_cases h1 : k = 1
      · subst h1
        simp only [if_true] at hct
        go_wp2
        exact ⟨⟨c, m + 1, by simp, by simp, by omega, by omega, by omega, RB⟩, by simp [intOf]; omega⟩
      · have d3 : (k != 1) = true := by simpa using h1
        rw [if_neg h1] at hct
        go_wp2
        exact ⟨⟨c + 1, m + 1, by simp, by simp, by omega, by omega, by omega, RB⟩, by simp [intOf]; omega⟩
    · have hme : m = WY.length := by omega
      subst hme
      rw [List.drop_length] at hct
      have e0 : cost ([] : List (Int × ByteArray)) = 0 := rfl
      rw [e0, Nat.zero_add] at hct
      subst hct
      rw [← hcost] at c10
      subst hcost
      have hpr := hp8.below RB
      have hqr := hq8.below RB
      have hd : decide ((WY.length : Int) < (WY.length : Int)) = false := decide_eq_false (by omega)
      have ck := c10 wr _ _ hpr hqr
      clear c10
      go_wp2_with (go_at_call 10; with_reducible refine ck.mono ?_; rintro e w9 ⟨rfl, b9⟩)
      go_ret
      exact ⟨rfl, B8.trans ((RB.trans (b9.mono RB.size)).mono B8.size)⟩
theorem walk (a b : ByteArray) (v : Value) (L : List (Int × ByteArray)) (w : World) (ha : a.size ≤ 1048576) (hb : b.size ≤ 1048576) (h : Row w v 2 L.length (ecs L)) (hs : ∀ e ∈ L, e.2.size ≤ 1048576) (hL : L.length ≤ 1048576) :
    Calls Try.prog 3 #[.string a, .string b, v] w fun e w' => e = .returned (.bool true) ∧ Below w.heap.size w w' := by
  cases hf : fits a b with
  | true => exact walk_fits a b v L w ha hb h hs hL hf
  | false => exact walk_long a b v L w ha hb h hs hL hf
end Go.Proofs.Ytiiheaopamjijaa.Sf
