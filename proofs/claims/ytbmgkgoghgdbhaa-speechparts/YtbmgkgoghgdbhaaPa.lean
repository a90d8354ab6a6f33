/- Sequents in plain words: a search without detours that finds whatever can be proved, with cuts or without (GENTZEN, LAMBEK). No conditions. -/
import Derived.Test.YtbmgkgoghgdbhaaTiM
namespace Go.Proofs.Ytbmgkgoghgdbhaa.Te
open Go.RowKit

def bs (n : Int) : Ty := ⟨1, n, []⟩
def ov (x y : Ty) : Ty := ⟨2, 0, [x, y]⟩
def un (y x : Ty) : Ty := ⟨3, 0, [y, x]⟩
/-- the search: of a list (none), or from a part of it that is to become the goal, with what stands ahead and behind -/
def FH : Nat → Option (List Ty × Ty × List Ty) → List Ty → Ty → Prop
  | 0, _, _, _ => False
  | n + 1, none, l, g => (∃ x y, g = ov x y ∧ FH n none (l ++ [y]) x) ∨ (∃ y x, g = un y x ∧ FH n none (y :: l) x) ∨ (∃ k A p B, g = bs k ∧ l = A ++ p :: B ∧ FH n (some (A, p, B)) [] g)
  | n + 1, some (A, p, B), _, g => (∃ k, p = g ∧ g = bs k ∧ A = [] ∧ B = []) ∨ (∃ x y D B', p = ov x y ∧ B = D ++ B' ∧ D ≠ [] ∧ FH n none D y ∧ FH n (some (A, x, B')) [] g) ∨ (∃ y x A' D, p = un y x ∧ A = A' ++ D ∧ D ≠ [] ∧ FH n none D y ∧ FH n (some (A', x, B)) [] g)
theorem FH_more : ∀ {n : Nat} {h : Option (List Ty × Ty × List Ty)} {l : List Ty} {g : Ty}, FH n h l g → FH (n + 1) h l g := by
  intro n
  induction n with
  | zero => intro h l g hf; exact hf.elim
  | succ n ih =>
    intro h l g hf
    match h with
    | none =>
      rcases hf with ⟨x, y, e, hf⟩ | ⟨y, x, e, hf⟩ | ⟨k, A, p, B, e, e2, hf⟩
      · exact .inl ⟨x, y, e, ih hf⟩
      · exact .inr (.inl ⟨y, x, e, ih hf⟩)
      · exact .inr (.inr ⟨k, A, p, B, e, e2, ih hf⟩)
    | some (A, p, B) =>
      rcases hf with hf | ⟨x, y, D, B', e, e2, e3, h1, h2⟩ | ⟨y, x, A', D, e, e2, e3, h1, h2⟩
      · exact .inl hf
      · exact .inr (.inl ⟨x, y, D, B', e, e2, e3, ih h1, ih h2⟩)
      · exact .inr (.inr ⟨y, x, A', D, e, e2, e3, ih h1, ih h2⟩)
theorem FH_upto {n m : Nat} {h : Option (List Ty × Ty × List Ty)} {l : List Ty} {g : Ty} (hf : FH n h l g) (hm : n ≤ m) : FH m h l g := by
  induction m with
  | zero =>
    have : n = 0 := by omega
    subst this
    exact hf
  | succ m ih =>
    by_cases h' : n ≤ m
    · exact FH_more (ih h')
    · have : n = m + 1 := by omega
      subst this
      exact hf
/-- a sequent that has a proof -/
def E (l : List Ty) (g : Ty) : Prop := ∃ n, FH n none l g
/-- a part that becomes the goal -/
def EH (A : List Ty) (p : Ty) (B : List Ty) (g : Ty) : Prop := ∃ n, FH n (some (A, p, B)) [] g
theorem E_ov {l : List Ty} {x y : Ty} (h : E (l ++ [y]) x) : E l (ov x y) := by
  obtain ⟨n, h⟩ := h
  exact ⟨n + 1, .inl ⟨x, y, rfl, h⟩⟩
theorem E_un {l : List Ty} {y x : Ty} (h : E (y :: l) x) : E l (un y x) := by
  obtain ⟨n, h⟩ := h
  exact ⟨n + 1, .inr (.inl ⟨y, x, rfl, h⟩)⟩
theorem ov_inj {x y x' y' : Ty} (h : ov x y = ov x' y') : x = x' ∧ y = y' := by
  simp only [ov, Ty.mk.injEq, List.cons.injEq, and_true, true_and] at h
  exact h
theorem un_inj {x y x' y' : Ty} (h : un x y = un x' y') : x = x' ∧ y = y' := by
  simp only [un, Ty.mk.injEq, List.cons.injEq, and_true, true_and] at h
  exact h
theorem ov_un {x y x' y' : Ty} (h : ov x y = un x' y') : False := by
  have := congrArg Ty.kind h
  simp [ov, un] at this
theorem ov_bs {x y : Ty} {k : Int} (h : ov x y = bs k) : False := by
  have := congrArg Ty.kind h
  simp [ov, bs] at this
theorem un_bs {x y : Ty} {k : Int} (h : un x y = bs k) : False := by
  have := congrArg Ty.kind h
  simp [un, bs] at this
theorem E_ov_inv {l : List Ty} {x y : Ty} (h : E l (ov x y)) : E (l ++ [y]) x := by
  obtain ⟨n, h⟩ := h
  cases n with
  | zero => exact h.elim
  | succ n =>
    rcases h with ⟨x', y', e, hf⟩ | ⟨y', x', e, hf⟩ | ⟨k, A, p, B, e, _, hf⟩
    · obtain ⟨rfl, rfl⟩ := ov_inj e
      exact ⟨n, hf⟩
    · exact (ov_un e).elim
    · exact (ov_bs e).elim
theorem E_un_inv {l : List Ty} {y x : Ty} (h : E l (un y x)) : E (y :: l) x := by
  obtain ⟨n, h⟩ := h
  cases n with
  | zero => exact h.elim
  | succ n =>
    rcases h with ⟨x', y', e, hf⟩ | ⟨y', x', e, hf⟩ | ⟨k, A, p, B, e, _, hf⟩
    · exact (ov_un e.symm).elim
    · obtain ⟨rfl, rfl⟩ := un_inj e
      exact ⟨n, hf⟩
    · exact (un_bs e).elim
theorem E_bs_inv {l : List Ty} {k : Int} (h : E l (bs k)) : ∃ A p B, l = A ++ p :: B ∧ EH A p B (bs k) := by
  obtain ⟨n, h⟩ := h
  cases n with
  | zero => exact h.elim
  | succ n =>
    rcases h with ⟨x', y', e, hf⟩ | ⟨y', x', e, hf⟩ | ⟨k, A, p, B, e, e2, hf⟩
    · exact (ov_bs e.symm).elim
    · exact (un_bs e.symm).elim
    · exact ⟨A, p, B, e2, n, hf⟩
theorem E_bs {A B : List Ty} {p : Ty} {k : Int} (h : EH A p B (bs k)) : E (A ++ p :: B) (bs k) := by
  obtain ⟨n, h⟩ := h
  exact ⟨n + 1, .inr (.inr ⟨k, A, p, B, rfl, rfl, h⟩)⟩
theorem EH_same (k : Int) : EH [] (bs k) [] (bs k) := ⟨1, .inl ⟨k, rfl, rfl, rfl, rfl⟩⟩
theorem EH_ov {A D B : List Ty} {x y g : Ty} (hD : D ≠ []) (h1 : E D y) (h2 : EH A x B g) : EH A (ov x y) (D ++ B) g := by
  obtain ⟨n, h1⟩ := h1
  obtain ⟨m, h2⟩ := h2
  exact ⟨max n m + 1, .inr (.inl ⟨x, y, D, B, rfl, rfl, hD, FH_upto h1 (Nat.le_max_left _ _), FH_upto h2 (Nat.le_max_right _ _)⟩)⟩
theorem EH_un {A D B : List Ty} {y x g : Ty} (hD : D ≠ []) (h1 : E D y) (h2 : EH A x B g) : EH (A ++ D) (un y x) B g := by
  obtain ⟨n, h1⟩ := h1
  obtain ⟨m, h2⟩ := h2
  exact ⟨max n m + 1, .inr (.inr ⟨y, x, A, D, rfl, rfl, hD, FH_upto h1 (Nat.le_max_left _ _), FH_upto h2 (Nat.le_max_right _ _)⟩)⟩
theorem EH_inv {A B : List Ty} {p g : Ty} (h : EH A p B g) : (∃ k, p = g ∧ g = bs k ∧ A = [] ∧ B = []) ∨ (∃ x y D B', p = ov x y ∧ B = D ++ B' ∧ D ≠ [] ∧ E D y ∧ EH A x B' g) ∨ (∃ y x A' D, p = un y x ∧ A = A' ++ D ∧ D ≠ [] ∧ E D y ∧ EH A' x B g) := by
  obtain ⟨n, h⟩ := h
  cases n with
  | zero => exact h.elim
  | succ n =>
    rcases h with hf | ⟨x, y, D, B', e, e2, e3, h1, h2⟩ | ⟨y, x, A', D, e, e2, e3, h1, h2⟩
    · exact .inl hf
    · exact .inr (.inl ⟨x, y, D, B', e, e2, e3, ⟨n, h1⟩, ⟨n, h2⟩⟩)
    · exact .inr (.inr ⟨y, x, A', D, e, e2, e3, ⟨n, h1⟩, ⟨n, h2⟩⟩)

/-- parts in which nothing is wrong -/
def Gp (p : Ty) : Prop := Te.wr p = 0
theorem fz_all : ∀ {l : List Int}, fz l = 0 → ∀ x ∈ l, x = 0
  | [], _, x, hx => by cases hx
  | a :: l, h, x, hx => by
    unfold fz at h
    rw [List.find?_cons] at h
    by_cases ha : a = 0
    · simp only [ha, ne_eq, not_true_eq_false, decide_false] at h
      rcases List.mem_cons.1 hx with rfl | hx
      · exact ha
      · exact fz_all (l := l) h x hx
    · simp [ha] at h
theorem gp_node {p : Ty} (h : Gp p) : w1 p.kind p.n p.kids.length = 0 ∧ ∀ x ∈ p.kids, Gp x := by
  have h0 : w1 p.kind p.n p.kids.length = 0 := by
    cases hd : decide (w1 p.kind p.n p.kids.length = 0)
    · have := of_decide_eq_false hd
      unfold Gp at h
      rw [wr_bad this] at h
      exact h
    · exact of_decide_eq_true hd
  refine ⟨h0, fun x hx => ?_⟩
  unfold Gp at h
  rw [wr_ok h0] at h
  exact fz_all h _ (List.mem_map.2 ⟨_, hx, rfl⟩)
theorem gp_cases {p : Ty} (h : Gp p) : (∃ k, p = bs k ∧ 0 ≤ k ∧ k ≤ 9) ∨ (∃ x y, p = ov x y ∧ Gp x ∧ Gp y) ∨ (∃ y x, p = un y x ∧ Gp y ∧ Gp x) := by
  obtain ⟨h0, hk⟩ := gp_node h
  obtain ⟨k, n, ks⟩ := p
  dsimp only at h0 hk
  unfold w1 at h0
  split at h0
  · rename_i e
    split at h0
    · cases h0
    · rename_i hl
      split at h0
      · cases h0
      · rename_i hn
        have : ks = [] := List.length_eq_zero_iff.1 (Decidable.of_not_not hl)
        subst e this
        exact .inl ⟨n, rfl, by omega, by omega⟩
  · split at h0
    · rename_i e
      split at h0
      · cases h0
      · rename_i hl
        split at h0
        · cases h0
        · rename_i hn
          have hl : ks.length = 2 := Decidable.of_not_not hl
          have hn0 : n = 0 := by omega
          subst hn0
          match ks, hl with
          | [p, q], _ =>
            rcases e with rfl | rfl
            · exact .inr (.inl ⟨p, q, rfl, hk p (by simp), hk q (by simp)⟩)
            · exact .inr (.inr ⟨p, q, rfl, hk p (by simp), hk q (by simp)⟩)
    · cases h0
theorem sz_ov (x y : Ty) : sz (ov x y) = 1 + sz x + sz y := by
  unfold ov
  rw [sz]
  simp
  omega
theorem sz_un (y x : Ty) : sz (un y x) = 1 + sz y + sz x := by
  unfold un
  rw [sz]
  simp
  omega
theorem sz_bs (k : Int) : sz (bs k) = 1 := by
  unfold bs
  rw [sz]
  simp
/-- a part's own proof -/
theorem spine : ∀ (s : Nat) (p : Ty), sz p ≤ s → Gp p → ∃ L R k, (∀ l, E (L ++ l ++ R) (bs k) → E l p) ∧ EH L p R (bs k) := by
  intro s
  induction s with
  | zero =>
    intro p hs hp
    rw [sz] at hs
    omega
  | succ s ih =>
    intro p hs hp
    have same : ∀ q, sz q ≤ s → Gp q → E [q] q := fun q hq hg => by
      obtain ⟨L, R, k, h1, h2⟩ := ih q hq hg
      refine h1 [q] ?_
      have := E_bs h2
      simpa using this
    rcases gp_cases hp with ⟨k, rfl, _⟩ | ⟨x, y, rfl, hx, hy⟩ | ⟨y, x, rfl, hy, hx⟩
    · exact ⟨[], [], k, fun l h => by simpa using h, EH_same k⟩
    · rw [sz_ov] at hs
      obtain ⟨L, R, k, h1, h2⟩ := ih x (by omega) hx
      refine ⟨L, y :: R, k, fun l h => E_ov (h1 _ ?_), EH_ov (D := [y]) (by simp) (same y (by omega) hy) h2⟩
      simpa using h
    · rw [sz_un] at hs
      obtain ⟨L, R, k, h1, h2⟩ := ih x (by omega) hx
      refine ⟨L ++ [y], R, k, fun l h => E_un (h1 _ ?_), EH_un (D := [y]) (by simp) (same y (by omega) hy) h2⟩
      simpa using h
theorem E_id {p : Ty} (h : Gp p) : E [p] p := by
  obtain ⟨L, R, k, h1, h2⟩ := spine _ p (Nat.le_refl _) h
  refine h1 [p] ?_
  have := E_bs h2
  simpa using this
theorem cut1 {l1 l2 A B : List Ty} {x : Ty} (h : l1 ++ x :: l2 = A ++ B) : (∃ c, A = l1 ++ x :: c ∧ l2 = c ++ B) ∨ (∃ c, B = c ++ x :: l2 ∧ l1 = A ++ c) := by
  rcases List.append_eq_append_iff.1 h with ⟨c, e1, e2⟩ | ⟨c, e1, e2⟩
  · cases c with
    | nil =>
      right
      refine ⟨[], ?_, ?_⟩
      · simpa using e2.symm
      · simpa using e1.symm
    | cons z c =>
      left
      simp only [List.cons_append, List.cons.injEq] at e2
      obtain ⟨rfl, e2⟩ := e2
      exact ⟨c, e1, e2⟩
  · exact .inr ⟨c, e2, e1⟩
/-- what may stand for a part wherever that is used -/
def Sub (x : Ty) (K : List Ty) : Prop := K ≠ [] ∧ ∀ A B k, EH A x B (bs k) → E (A ++ K ++ B) (bs k)
theorem sub {x : Ty} {K : List Ty} (hQ : Sub x K) : ∀ n : Nat, (∀ l1 l2 g, FH n none (l1 ++ x :: l2) g → E (l1 ++ K ++ l2) g) ∧ (∀ A p B1 B2 g, FH n (some (A, p, B1 ++ x :: B2)) [] g → EH A p (B1 ++ K ++ B2) g) ∧ (∀ A1 A2 p B g, FH n (some (A1 ++ x :: A2, p, B)) [] g → EH (A1 ++ K ++ A2) p B g) := by
  intro n
  induction n with
  | zero => exact ⟨fun _ _ _ h => h.elim, fun _ _ _ _ _ h => h.elim, fun _ _ _ _ _ h => h.elim⟩
  | succ n ih =>
    obtain ⟨ih1, ih2, ih3⟩ := ih
    have nn : ∀ c d : List Ty, c ++ K ++ d ≠ [] := fun c d e => hQ.1 (by
      have := congrArg List.length e
      simp only [List.length_append, List.length_nil] at this
      exact List.length_eq_zero_iff.1 (by omega))
    refine ⟨?_, ?_, ?_⟩
    · intro l1 l2 g h
      rcases h with ⟨x', y', e, hf⟩ | ⟨y', x', e, hf⟩ | ⟨k, A, p, B, e, e2, hf⟩
      · subst e
        refine E_ov ?_
        have := ih1 l1 (l2 ++ [y']) x' (by simpa using hf)
        simpa using this
      · subst e
        refine E_un ?_
        have := ih1 (y' :: l1) l2 x' (by simpa using hf)
        simpa using this
      · subst e
        rcases cut1 e2 with ⟨c, rfl, rfl⟩ | ⟨c, e3, rfl⟩
        · have := E_bs (ih3 l1 c p B _ hf)
          simpa using this
        · cases c with
          | nil =>
            simp only [List.nil_append, List.cons.injEq] at e3
            obtain ⟨rfl, rfl⟩ := e3
            have := hQ.2 _ _ _ ⟨n, hf⟩
            simpa using this
          | cons z c =>
            simp only [List.cons_append, List.cons.injEq] at e3
            obtain ⟨rfl, rfl⟩ := e3
            have := E_bs (ih2 A p c l2 _ hf)
            simpa using this
    · intro A p B1 B2 g h
      rcases h with ⟨k, e1, e2, e3, e4⟩ | ⟨x', y', D, B', e, e2, e3, h1, h2⟩ | ⟨y', x', A', D, e, e2, e3, h1, h2⟩
      · simp at e4
      · subst e
        rcases cut1 e2 with ⟨c, rfl, rfl⟩ | ⟨c, rfl, rfl⟩
        · have := EH_ov (nn B1 c) (ih1 B1 c y' h1) ⟨n, h2⟩
          simpa using this
        · have := EH_ov e3 ⟨n, h1⟩ (ih2 A x' c B2 g h2)
          simpa using this
      · subst e e2
        exact EH_un e3 ⟨n, h1⟩ (ih2 A' x' B1 B2 g h2)
    · intro A1 A2 p B g h
      rcases h with ⟨k, e1, e2, e3, e4⟩ | ⟨x', y', D, B', e, e2, e3, h1, h2⟩ | ⟨y', x', A', D, e, e2, e3, h1, h2⟩
      · simp at e3
      · subst e e2
        exact EH_ov e3 ⟨n, h1⟩ (ih3 A1 A2 x' B' g h2)
      · subst e
        rcases cut1 e2 with ⟨c, rfl, rfl⟩ | ⟨c, rfl, rfl⟩
        · have := EH_un e3 ⟨n, h1⟩ (ih3 A1 c x' B g h2)
          simpa using this
        · have := EH_un (nn c A2) (ih1 c A2 y' h1) ⟨n, h2⟩
          simpa using this
theorem E_sub {x : Ty} {K : List Ty} (hQ : Sub x K) {A B : List Ty} {g : Ty} (h : E (A ++ x :: B) g) : E (A ++ K ++ B) g := by
  obtain ⟨n, h⟩ := h
  exact (sub hQ n).1 A B g h
theorem E_ovl {A D B : List Ty} {x y g : Ty} (hD : D ≠ []) (h1 : E D y) (h2 : E (A ++ x :: B) g) : E (A ++ ov x y :: D ++ B) g := by
  have := E_sub (K := ov x y :: D) ⟨by simp, fun A' B' k h => by
    have := E_bs (EH_ov hD h1 h)
    simpa using this⟩ h2
  simpa using this
theorem E_unl {A D B : List Ty} {y x g : Ty} (hD : D ≠ []) (h1 : E D y) (h2 : E (A ++ x :: B) g) : E (A ++ D ++ un y x :: B) g := by
  have := E_sub (K := D ++ [un y x]) ⟨by simp, fun A' B' k h => by
    have := E_bs (EH_un hD h1 h)
    simpa using this⟩ h2
  simpa using this
/-- whatever is proved may stand for what it is -/
theorem sub_of : ∀ (s : Nat) (p : Ty), sz p ≤ s → Gp p → ∀ D, D ≠ [] → E D p → Sub p D := by
  intro s
  induction s with
  | zero =>
    intro p hs
    rw [sz] at hs
    omega
  | succ s ih =>
    intro p hs hp D hD h
    refine ⟨hD, fun A B k hh => ?_⟩
    rcases EH_inv hh with ⟨k', e, e2, rfl, rfl⟩ | ⟨x, y, D2, B', rfl, rfl, hD2, h1, h2⟩ | ⟨y, x, A', D2, rfl, rfl, hD2, h1, h2⟩
    · rw [e] at h
      simpa using h
    · rcases gp_cases hp with ⟨k, e, _⟩ | ⟨x', y', e, hx, hy⟩ | ⟨y', x', e, _⟩
      · exact (ov_bs e).elim
      · obtain ⟨rfl, rfl⟩ := ov_inj e
        rw [sz_ov] at hs
        have h3 := E_ov_inv h
        have h4 := E_sub (ih y (by omega) hy D2 hD2 h1) (A := D) (B := []) h3
        have h5 := ih x (by omega) hx (D ++ D2) (by simp [hD]) (by simpa using h4)
        have := h5.2 A B' k h2
        simpa using this
      · exact (ov_un e).elim
    · rcases gp_cases hp with ⟨k, e, _⟩ | ⟨x', y', e, _⟩ | ⟨y', x', e, hy, hx⟩
      · exact (un_bs e).elim
      · exact (ov_un e.symm).elim
      · obtain ⟨rfl, rfl⟩ := un_inj e
        rw [sz_un] at hs
        have h3 := E_un_inv h
        have h4 := E_sub (ih y (by omega) hy D2 hD2 h1) (A := []) (B := D) h3
        have h5 := ih x (by omega) hx (D2 ++ D) (by simp [hD]) (by simpa using h4)
        have := h5.2 A' B k h2
        simpa using this
/-- the cut -/
theorem E_cut {A D B : List Ty} {x g : Ty} (hx : Gp x) (hD : D ≠ []) (h1 : E D x) (h2 : E (A ++ x :: B) g) : E (A ++ D ++ B) g := E_sub (sub_of _ x (Nat.le_refl _) hx D hD h1) h2
/-- of which sequents one is that has a proof -/
theorem E_inv {l : List Ty} {g : Ty} (hg : Gp g) (h : E l g) : l = [g] ∨ (∃ x y, g = ov x y ∧ E (l ++ [y]) x) ∨ (∃ y x, g = un y x ∧ E (y :: l) x) ∨ (∃ A x y D B, l = A ++ ov x y :: (D ++ B) ∧ D ≠ [] ∧ E D y ∧ E (A ++ x :: B) g) ∨ (∃ A D y x B, l = A ++ (D ++ un y x :: B) ∧ D ≠ [] ∧ E D y ∧ E (A ++ x :: B) g) := by
  rcases gp_cases hg with ⟨k, rfl, _⟩ | ⟨x, y, rfl, _⟩ | ⟨y, x, rfl, _⟩
  · obtain ⟨A, p, B, rfl, hh⟩ := E_bs_inv h
    rcases EH_inv hh with ⟨k', e, e2, rfl, rfl⟩ | ⟨x, y, D2, B', rfl, rfl, hD2, h1, h2⟩ | ⟨y, x, A', D2, rfl, rfl, hD2, h1, h2⟩
    · left
      rw [e]
      rfl
    · exact .inr (.inr (.inr (.inl ⟨A, x, y, D2, B', rfl, hD2, h1, E_bs h2⟩)))
    · exact .inr (.inr (.inr (.inr ⟨A', D2, y, x, B, by simp, hD2, h1, E_bs h2⟩)))
  · exact .inr (.inl ⟨x, y, rfl, E_ov_inv h⟩)
  · exact .inr (.inr (.inl ⟨y, x, rfl, E_un_inv h⟩))
/-- of a base part, what a part gives less what it wants -/
def gv (b : Int) (p : Ty) : Int := match _h : p.kids with
  | [x, y] => if p.kind = 2 then gv b x - gv b y else gv b y - gv b x
  | _ => if p.n = b then 1 else 0
termination_by SizeOf.sizeOf p
decreasing_by all_goals (refine Ty.lt_kids ?_; rw [_h]; simp)
theorem gv_ov (b : Int) (x y : Ty) : gv b (ov x y) = gv b x - gv b y := by
  rw [gv]
  simp [ov]
theorem gv_un (b : Int) (y x : Ty) : gv b (un y x) = gv b x - gv b y := by
  rw [gv]
  simp [un]
theorem gv_bs (b k : Int) : gv b (bs k) = if k = b then 1 else 0 := by
  rw [gv]
  rfl
def sm (b : Int) (l : List Ty) : Int := (l.map (gv b)).sum
theorem sm_app (b : Int) (l m : List Ty) : sm b (l ++ m) = sm b l + sm b m := by simp [sm]
theorem sm_cons (b : Int) (x : Ty) (l : List Ty) : sm b (x :: l) = gv b x + sm b l := by simp [sm]
theorem sm_nil (b : Int) : sm b [] = 0 := rfl
/-- as many on either side -/
theorem level (b : Int) : ∀ n : Nat, (∀ l g, FH n none l g → sm b l = gv b g) ∧ (∀ A p B g, FH n (some (A, p, B)) [] g → sm b A + gv b p + sm b B = gv b g) := by
  intro n
  induction n with
  | zero => exact ⟨fun _ _ h => h.elim, fun _ _ _ _ h => h.elim⟩
  | succ n ih =>
    obtain ⟨ih1, ih2⟩ := ih
    refine ⟨?_, ?_⟩
    · intro l g h
      rcases h with ⟨x', y', e, hf⟩ | ⟨y', x', e, hf⟩ | ⟨k, A, p, B, e, e2, hf⟩
      · have := ih1 _ _ hf
        rw [sm_app, sm_cons, sm_nil] at this
        rw [e, gv_ov]
        omega
      · have := ih1 _ _ hf
        rw [sm_cons] at this
        rw [e, gv_un]
        omega
      · have := ih2 _ _ _ _ hf
        rw [e2, sm_app, sm_cons]
        omega
    · intro A p B g h
      rcases h with ⟨k, e1, e2, e3, e4⟩ | ⟨x', y', D, B', e, e2, e3, h1, h2⟩ | ⟨y', x', A', D, e, e2, e3, h1, h2⟩
      · rw [e3, e4, e1, sm_nil]
        omega
      · have a1 := ih1 _ _ h1
        have a2 := ih2 _ _ _ _ h2
        rw [e, e2, gv_ov, sm_app]
        omega
      · have a1 := ih1 _ _ h1
        have a2 := ih2 _ _ _ _ h2
        rw [e, e2, gv_un, sm_app]
        omega
theorem E_level {l : List Ty} {g : Ty} (h : E l g) (b : Int) : sm b l = gv b g := by
  obtain ⟨n, h⟩ := h
  exact (level b n).1 l g h
/-- the base part that a part is in the end -/
def endN (p : Ty) : Int := match _h : p.kids with
  | [x, y] => if p.kind = 2 then endN x else endN y
  | _ => p.n
termination_by SizeOf.sizeOf p
decreasing_by all_goals (refine Ty.lt_kids ?_; rw [_h]; simp)
theorem endN_ov (x y : Ty) : endN (ov x y) = endN x := by
  rw [endN]
  simp [ov]
theorem endN_un (y x : Ty) : endN (un y x) = endN x := by
  rw [endN]
  simp [un]
theorem endN_bs (k : Int) : endN (bs k) = k := by
  rw [endN]
  simp [bs]
theorem EH_end {A B : List Ty} {p : Ty} {k : Int} (h : EH A p B (bs k)) : endN p = k := by
  obtain ⟨n, h⟩ := h
  induction n generalizing A p B with
  | zero => exact h.elim
  | succ n ih =>
    rcases h with ⟨k', e1, e2, _, _⟩ | ⟨x', y', D, B', e, _, _, _, h2⟩ | ⟨y', x', A', D, e, _, _, _, h2⟩
    · rw [e1, endN_bs]
    · rw [e, endN_ov]
      exact ih h2
    · rw [e, endN_un]
      exact ih h2
end Go.Proofs.Ytbmgkgoghgdbhaa.Te
