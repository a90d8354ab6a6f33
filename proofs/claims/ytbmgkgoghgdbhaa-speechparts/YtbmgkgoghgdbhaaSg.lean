/- around: a part between lists of parts. Condition: together they have at most 1000 parts. -/
import Derived.Test.YtbmgkgoghgdbhaaSf
import Derived.Test.YtbmgkgoghgdbhaaSq
namespace Go.Proofs.Ytbmgkgoghgdbhaa.Te
open Go.RowKit Go.Shelf

theorem tys_nil {P : Nat → Prop} (w : World) (d : Nat) (a : Option Addr) (c : Nat) : TyP P w (d + 1) ⟨0, 0, []⟩ a c := ⟨by constructor <;> simp, by constructor <;> simp, by simp, .inl rfl⟩
theorem tys_one {P : Nat → Prop} {w : World} {d : Nat} {t : Ty} {a : Option Addr} {c : Nat} (g : Nat) (hPg : P g) (h : TyP P w d t a c) (hh : w.heap[g]? = some (.cells #[.int .i64 t.kind, .int .i64 t.n, .slice a t.kids.length c] 24 (0, 0))) (c' : Nat) : TyP P w (d + 1) ⟨0, 0, [t]⟩ (some ⟨g, 0, none⟩) c' := by
  refine ⟨by constructor <;> simp, by constructor <;> simp, by simp, .inr ⟨g, 0, rfl, lt_of_get hh, hPg, fun j hj => ?_⟩⟩
  have : j = 0 := by simpa using hj
  subst this
  exact ⟨a, c, cell_of_row _ _ 0 _ _ _ hh, cell_of_row _ _ 1 _ _ _ hh, cell_of_row _ _ 2 _ _ _ hh, h⟩
set_option maxHeartbeats 400000 in
theorem around_any {P : Nat → Prop} {d : Nat} (l m : List Ty) (t : Ty) (a : Option Addr) (c : Nat) (b : Option Addr) (e0 : Nat) (x : Option Addr) (y : Nat) (w : World) (hl : TyP P w (d + 1) ⟨0, 0, l⟩ a c) (ht : TyP P w d t x y) (hm : TyP P w (d + 1) ⟨0, 0, m⟩ b e0) (hs : l.length + m.length < 1000) (hP : ∀ g, w.heap.size ≤ g → P g) :
    Calls Try.prog 83 #[.slice a l.length c, vty t x y, .slice b m.length e0] w fun e w' => ∃ a c, e = .returned (.slice a (l ++ [t] ++ m).length c) ∧ LsAt P w' d (l ++ [t] ++ m) a c ∧ Below w.heap.size w w' := by
  have HL : Hid (TyP P w (d + 1) ⟨0, 0, l⟩ a c) := hl
  have HT : Hid (TyP P w d t x y) := ht
  have HM : Hid (TyP P w (d + 1) ⟨0, 0, m⟩ b e0) := hm
  have HS : Hid (l.length + m.length < 1000) := hs
  have HP : Hid (∀ g, w.heap.size ≤ g → P g) := hP
  clear hl ht hm hs hP
  obtain ⟨fl, hf⟩ : ∃ fl, l ++ [t] ++ m = fl := ⟨_, rfl⟩
  rw [hf]
  have HF : Hid (l ++ [t] ++ m = fl) := hf
  clear hf
  unfold vty
  go_enter Try.func83, Try.ntmps83
  obtain ⟨h1, h2, h3, h4, h5⟩ := three_boxes w (.cells #[.int .i64 t.kind, .int .i64 t.n, .slice x t.kids.length y] 24) (.cells #[.int .i64 t.kind, .int .i64 t.n, .slice x t.kids.length y] 24) (.cells #[.slice a l.length c, .slice (some ⟨w.heap.size + 1, 0, none⟩) 1 1, .slice b m.length e0] 22)
  have K := fun hc => concat_any (P := P) (d := d) (w.heap.size + 2) 0 3 [l, [t], m] fl (by rw [← HF.out]; simp) (((w.alloc (.cells #[.int .i64 t.kind, .int .i64 t.n, .slice x t.kids.length y] 24)).alloc (.cells #[.int .i64 t.kind, .int .i64 t.n, .slice x t.kids.length y] 24)).alloc (.cells #[.slice a l.length c, .slice (some ⟨w.heap.size + 1, 0, none⟩) 1 1, .slice b m.length e0] 22)) (by omega) (by simp) hc (by rw [← HF.out]; have := HS.out; simp; omega) (fun g hg => HP.out g (by omega))
  have K := K (by
    intro i hi
    have hi3 : i = 0 ∨ i = 1 ∨ i = 2 := by simp at hi; omega
    rcases hi3 with rfl | rfl | rfl
    · exact ⟨a, c, cell_of_row _ _ 0 _ _ _ h3, HL.out.below h5⟩
    · exact ⟨_, 1, cell_of_row _ _ 1 _ _ _ h3, tys_one _ (HP.out _ (by omega)) (HT.out.below h5) h2 _⟩
    · exact ⟨b, e0, cell_of_row _ _ 2 _ _ _ h3, HM.out.below h5⟩)
  rw [show ([l, [t], m] : List (List Ty)).length = 3 from rfl] at K
  go_wp2_with (go_at_call 78; (with_reducible refine K.mono ?_); rintro e w1 ⟨a1, c1, rfl, hT1, hb1⟩)
  go_ret
  exact ⟨a1, c1, rfl, hT1, h5.trans (hb1.mono h5.size)⟩
end Go.Proofs.Ytbmgkgoghgdbhaa.Te
