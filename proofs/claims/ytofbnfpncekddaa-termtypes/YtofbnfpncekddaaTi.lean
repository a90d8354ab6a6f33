/- Types that lie in some blocks alone; lists of types; checkCons. No conditions. -/
import Derived.Test.YtofbnfpncekddaaTh
namespace Go.Proofs.Ytofbnfpncekddaa.Te
open Go.RowKit

/-- a type lies in memory, all that is in it in blocks of which P holds -/
def TyP (P : Nat → Prop) (w : World) : Nat → Ty → Option Addr → Nat → Prop
  | 0, _, _, _ => False
  | d + 1, t, a, _ => i64B t.kind ∧ i64B t.n ∧ t.kids.length ≤ 140737488355328 ∧ (t.kids.length = 0 ∨ ∃ g off, a = some ⟨g, off, none⟩ ∧ g < w.heap.size ∧ P g ∧ ∀ j (h : j < t.kids.length), ∃ a' c', w.cell? ⟨g, off + j * 3, none⟩ = some (.int .i64 t.kids[j].kind) ∧ w.cell? ⟨g, off + j * 3 + 1, none⟩ = some (.int .i64 t.kids[j].n) ∧ w.cell? ⟨g, off + j * 3 + 2, none⟩ = some (.slice a' t.kids[j].kids.length c') ∧ TyP P w d t.kids[j] a' c')
theorem TyP.at {P : Nat → Prop} {w : World} : ∀ {d : Nat} {t : Ty} {a : Option Addr} {c : Nat}, TyP P w d t a c → TyAt w d t a c := by
  intro d
  induction d with
  | zero => intro t a c h; exact h.elim
  | succ d ih =>
    intro t a c h
    obtain ⟨h1, h2, h3, h⟩ := h
    refine ⟨h1, h2, h3, ?_⟩
    rcases h with h | ⟨g, off, ha, hg, _, h⟩
    · exact .inl h
    · refine .inr ⟨g, off, ha, hg, fun j hj => ?_⟩
      obtain ⟨a', c', c0, c1, c2, ht⟩ := h j hj
      exact ⟨a', c', c0, c1, c2, ih ht⟩
theorem TyAt.within {w : World} : ∀ {d : Nat} {t : Ty} {a : Option Addr} {c : Nat}, TyAt w d t a c → TyP (fun g => g < w.heap.size) w d t a c := by
  intro d
  induction d with
  | zero => intro t a c h; exact h.elim
  | succ d ih =>
    intro t a c h
    obtain ⟨h1, h2, h3, h⟩ := h
    refine ⟨h1, h2, h3, ?_⟩
    rcases h with h | ⟨g, off, ha, hg, h⟩
    · exact .inl h
    · refine .inr ⟨g, off, ha, hg, hg, fun j hj => ?_⟩
      obtain ⟨a', c', c0, c1, c2, ht⟩ := h j hj
      exact ⟨a', c', c0, c1, c2, ih ht⟩
theorem cell_same {W W' : World} {b q : Nat} (h : W'.heap[b]? = W.heap[b]?) : W'.cell? ⟨b, q, none⟩ = W.cell? ⟨b, q, none⟩ := by
  unfold World.cell?
  rw [h]
/-- carried over, and to other blocks -/
theorem TyP.keep {P Q : Nat → Prop} {w w' : World} (hs : w.heap.size ≤ w'.heap.size) (hk : ∀ g, g < w.heap.size → P g → Q g ∧ w'.heap[g]? = w.heap[g]?) : ∀ {d : Nat} {t : Ty} {a : Option Addr} {c : Nat}, TyP P w d t a c → TyP Q w' d t a c := by
  intro d
  induction d with
  | zero => intro t a c h; exact h.elim
  | succ d ih =>
    intro t a c h
    obtain ⟨h1, h2, h3, h⟩ := h
    refine ⟨h1, h2, h3, ?_⟩
    rcases h with h | ⟨g, off, ha, hg, hP, h⟩
    · exact .inl h
    · have q := hk g hg hP
      refine .inr ⟨g, off, ha, by omega, q.1, fun j hj => ?_⟩
      obtain ⟨a', c', c0, c1, c2, ht⟩ := h j hj
      exact ⟨a', c', (cell_same q.2).trans c0, (cell_same q.2).trans c1, (cell_same q.2).trans c2, ih ht⟩
theorem TyP.below {P : Nat → Prop} {w w' : World} (hb : Below w.heap.size w w') {d : Nat} {t : Ty} {a : Option Addr} {c : Nat} (h : TyP P w d t a c) : TyP P w' d t a c := h.keep hb.size (fun g hg hP => ⟨hP, hb.block g hg⟩)
theorem TyP.kid {P : Nat → Prop} {w : World} {d : Nat} {t : Ty} {a : Option Addr} {c : Nat} (h : TyP P w (d + 1) t a c) {j : Nat} (hj : j < t.kids.length) : ∃ g off a' c', a = some ⟨g, off, none⟩ ∧ g < w.heap.size ∧ P g ∧ w.cell? ⟨g, off + j * 3, none⟩ = some (.int .i64 t.kids[j].kind) ∧ w.cell? ⟨g, off + j * 3 + 1, none⟩ = some (.int .i64 t.kids[j].n) ∧ w.cell? ⟨g, off + j * 3 + 2, none⟩ = some (.slice a' t.kids[j].kids.length c') ∧ TyP P w d t.kids[j] a' c' := by
  obtain ⟨_, _, _, h | ⟨g, off, ha, hg, hP, h⟩⟩ := h
  · omega
  · obtain ⟨a', c', h⟩ := h j hj
    exact ⟨g, off, a', c', ha, hg, hP, h⟩
/-- more depth does no harm -/
theorem TyP.more {P : Nat → Prop} {w : World} : ∀ {d : Nat} {t : Ty} {a : Option Addr} {c : Nat}, TyP P w d t a c → TyP P w (d + 1) t a c := by
  intro d
  induction d with
  | zero => intro t a c h; exact h.elim
  | succ d ih =>
    intro t a c h
    obtain ⟨h1, h2, h3, h⟩ := h
    refine ⟨h1, h2, h3, ?_⟩
    rcases h with h | ⟨g, off, ha, hg, hP, h⟩
    · exact .inl h
    · refine .inr ⟨g, off, ha, hg, hP, fun j hj => ?_⟩
      obtain ⟨a', c', c0, c1, c2, ht⟩ := h j hj
      exact ⟨a', c', c0, c1, c2, ih ht⟩
theorem TyP.upto {P : Nat → Prop} {w : World} {d e : Nat} {t : Ty} {a : Option Addr} {c : Nat} (h : TyP P w d t a c) (hd : d ≤ e) : TyP P w e t a c := by
  induction e with
  | zero =>
    have : d = 0 := by omega
    subst this
    exact h
  | succ e ih =>
    by_cases h' : d ≤ e
    · exact (ih h').more
    · have : d = e + 1 := by omega
      subst this
      exact h

/-- a list of types, to be read -/
def TysAt (w : World) (d : Nat) (l : List Ty) (a : Option Addr) (c : Nat) : Prop := TyAt w (d + 1) ⟨0, 0, l⟩ a c
def ckc (l : List Ty) : Int := if 20 < l.length then 7 else fz (l.map ck)
set_option maxHeartbeats 2000000 in
theorem cons_any (d : Nat) (l : List Ty) (a : Option Addr) (c : Nat) (w : World) (h : TysAt w d l a c) : Calls Try.prog 12 #[.slice a l.length c] w fun e w' => e = .returned (.int .i64 (ckc l)) ∧ Below w.heap.size w w' := by
  have hf := h.few.1
  have HT : Hid (TyAt w (d + 1) ⟨0, 0, l⟩ a c) := h
  obtain ⟨R, hR⟩ : ∃ R, ckc l = R := ⟨_, rfl⟩
  rw [hR]
  have HR0 : Hid (ckc l = R) := hR
  dsimp only at hf
  clear h hR
  by_cases h20 : 20 < l.length
  · have h20' : (20 : Int) < (l.length : Int) := by omega
    have HR : Hid (R = 7) := by (show R = 7; rw [← HR0.out]; unfold ckc; rw [if_pos h20])
    go_enter Try.func12, Try.ntmps12
    go_wp2
    go_ret
    exact ⟨by rw [HR.out]; rfl, Below.refl _ _⟩
  · have h20' : ¬ (20 : Int) < (l.length : Int) := by omega
    have HOK : Hid (fz (l.map ck) = R) := by (show fz (l.map ck) = R; rw [← HR0.out]; unfold ckc; rw [if_neg h20])
    go_enter Try.func12, Try.ntmps12
    go_wp2
    go_loopw [4, 5, 11] (fun _ _ iv wr => ∃ j : Nat, iv = .int .i64 (j : Int) ∧ j ≤ l.length ∧ (∀ i (hi : i < l.length), i < j → ck l[i] = 0) ∧ Below w.heap.size w wr) (fun _ _ iv _ => l.length - (intOf iv).toNat)
    case atStart => exact ⟨0, rfl, by omega, fun i _ h => by omega, Below.refl _ _⟩
    case round =>
      obtain ⟨j, rfl, hj, hz, hB⟩ := hrel
      have HZ : Hid (∀ i (hi : i < l.length), i < j → ck l[i] = 0) := hz
      clear hz
      by_cases hjl : j < l.length
      · have hjl' : (j : Int) < (l.length : Int) := by omega
        obtain ⟨g, off, a', c', rfl, hg, c0, c1, c2, ht⟩ := (HT.out.below hB).kid hjl
        dsimp only at c0 c1 c2 ht
        have hbA : ∀ o, Below wr.heap.size wr (wr.alloc o) := fun o => (Below.refl _ wr).alloc (Nat.le_refl _) o
        have K10 := fun W' (hW : Below wr.heap.size wr W') => check_any d l[j] a' c' W' (ht.below hW)
        unfold vty at K10
        obtain ⟨x, hx⟩ : ∃ x, ck l[j] = x := ⟨_, rfl⟩
        rw [hx] at K10
        have HX : Hid (ck l[j] = x) := hx
        clear ht hx
        by_cases hx0 : x = 0
        · subst hx0
          go_wp2_with (go_at_call 10; (with_reducible refine (K10 _ (hbA _)).mono ?_); rintro e w2 ⟨rfl, hb2⟩)
          go_roundw
          case rel => exact ⟨j + 1, by go_num, by omega, fun i hi h => by (by_cases e : i = j; (subst e; exact HX.out); exact HZ.out i hi (by omega)), hB.trans (((hbA _).trans (hb2.mono (hbA _).size)).mono hB.size)⟩
          case measure => simp [intOf]; omega
        · have bx : (x != 0) = true := bne_iff_ne.2 hx0
          have HR : Hid (R = x) := by
            show R = x
            have hjl2 : j < (l.map ck).length := by simp; exact hjl
            rw [← HOK.out, fz_at hjl2 (fun i hi h => by rw [List.getElem_map]; exact HZ.out i (by simpa using hi) h) (by rw [List.getElem_map, HX.out]; exact hx0), List.getElem_map, HX.out]
          go_wp2_with (go_at_call 10; (with_reducible refine (K10 _ (hbA _)).mono ?_); rintro e w2 ⟨rfl, hb2⟩)
          go_ret
          exact ⟨by rw [HR.out]; rfl, hB.trans (((hbA _).trans (hb2.mono (hbA _).size)).mono hB.size)⟩
      · have hjl' : ¬ (j : Int) < (l.length : Int) := by omega
        have HR : Hid (R = 0) := by
          show R = 0
          rw [← HOK.out]
          refine fz_zero (fun x hx => ?_)
          obtain ⟨t', ht', rfl⟩ := List.mem_map.1 hx
          obtain ⟨i, hi, rfl⟩ := List.getElem_of_mem ht'
          exact HZ.out i hi (by omega)
        go_wp2
        go_ret
        exact ⟨by rw [HR.out]; rfl, hB⟩
end Go.Proofs.Ytofbnfpncekddaa.Te
