/- SpeechSays walked: it returns true. No conditions beyond how the words lie. -/
import Derived.Test.YtbmgkgoghgdbhaaQl
import Derived.Test.YtbmgkgoghgdbhaaQnM
import Derived.Test.YtbmgkgoghgdbhaaQf
namespace Go.Proofs.Ytbmgkgoghgdbhaa.Te
open Go.RowKit

theorem fs_len (D : List Ty → Bool) : ∀ (vs : List (List Ty)) (l : List Ty) (r : List Nat), fs D vs l = some r → r.length = vs.length := by
  intro vs
  induction vs with
  | nil => intro l r h; simp only [fs] at h; split at h <;> simp_all
  | cons v vs ih =>
    intro l r h
    simp only [fs] at h
    have aux2 : ∀ (ts : List Ty) (i : Nat) (r : List Nat), firstI (fun t => fs D vs (l ++ [t])) i ts = some r → r.length = vs.length + 1 := by
      intro ts
      induction ts with
      | nil => intro i r h; simp [firstI] at h
      | cons t ts iht =>
        intro i r h
        simp only [firstI] at h
        cases hh : fs D vs (l ++ [t]) with
        | some q => simp only [hh, Option.some.injEq] at h; subst h; simp [ih _ _ hh]
        | none => simp only [hh] at h; exact iht _ _ h
    exact aux2 v 0 r h
theorem ws_addr {w : World} {d : Nat} {ws : List (List Ty)} {ka : Option Addr} (h : WsAt w d ws ka) (h1 : 0 < ws.length) : ∃ kg ko, ka = some ⟨kg, ko, none⟩ := by
  rcases h with h | ⟨B, off, e, _⟩
  · omega
  · exact ⟨B, off, e⟩
theorem lsq_nil (w : World) : LsQ w 1 [] none 0 := by
  unfold LsQ TyQ
  refine ⟨Nat.le_refl _, ?_, ?_, Nat.zero_le _, .inl rfl⟩ <;> (unfold i64B; dsimp only; omega)
set_option maxRecDepth 100000 in
set_option maxHeartbeats 4000000 in
theorem says_law {d : Nat} (ws : List (List Ty)) (ka : Option Addr) (kc : Nat) (g : Ty) (ag : Option Addr) (cg : Nat) (w : World) (hk : ws.length ≤ 140737488355328) (h : WsAt w d ws ka) (hg : TyQ w d g ag cg) :
    Calls Try.prog 7 #[.slice ka ws.length kc, vty g ag cg] w fun e w' => e = .returned (.bool true) ∧ Below w.heap.size w w' := by
  obtain ⟨D, hD⟩ : ∃ D : List Ty → Bool, ∀ l, D l = true ↔ E l g := ⟨fun l => @decide (E l g) (Classical.propDecidable _), fun l => by simp⟩
  obtain ⟨ans, hans⟩ : ∃ ans, ans = if cwords ws g = 0 then fs D ws [] else none := ⟨_, rfl⟩
  have K26 := fun W (hW : Below w.heap.size w W) => says_prog D ws ka kc g ag cg W hk (h.below hW) (hg.below hW) hD ans hans
  have K27 := fun W (hW : Below w.heap.size w W) => askw_any ws ka kc g ag cg W hk (h.below hW) (hg.at.below hW)
  have HK : Hid (WsAt w d ws ka) := h
  have HG : Hid (TyQ w d g ag cg) := hg
  have HD : Hid (∀ l, D l = true ↔ E l g) := hD
  have HA : Hid (ans = if cwords ws g = 0 then fs D ws [] else none) := hans
  obtain ⟨e0, he0⟩ : ∃ e0, cwords ws g = e0 := ⟨_, rfl⟩
  rw [he0] at K26 K27
  have HE : Hid (cwords ws g = e0) := he0
  clear h hg hD hans he0
  unfold vty at K26 K27 ⊢
  go_enter Try.func7, Try.ntmps7
  go_upto_region 1 with fail
  have hVb : Below w.heap.size w (w.alloc (.cells #[.int .i64 g.kind, .int .i64 g.n, .slice ag g.kids.length cg] 24)) := (Below.refl _ w).alloc (Nat.le_refl _) _
  have x1 := heap_alloc_new w (.cells #[.int .i64 g.kind, .int .i64 g.n, .slice ag g.kids.length cg] 24)
  have K26 := K26 _ hVb
  generalize hV : w.alloc (.cells #[.int .i64 g.kind, .int .i64 g.n, .slice ag g.kids.length cg] 24) = V at *
  clear hV
  have i0 := cell_of_row _ _ 0 _ _ _ x1
  have i1 := cell_of_row _ _ 1 _ _ _ x1
  have i2 := cell_of_row _ _ 2 _ _ _ x1
  go_upto_region 2 with (go_at_call 26; (with_reducible refine K26.mono ?_); rintro e1 w1 ⟨hb1, hans1⟩; clear K26; rcases hans1 with ⟨han, rfl⟩ | ⟨r, g1, han, rfl, hns⟩)
  · have hB1 := hVb.trans (hb1.mono hVb.size)
    have x1 := (hb1.block _ (lt_of_get x1)).trans x1
    have K27 := K27 _ hB1
    clear i0 i1 i2
    have i0 := cell_of_row _ _ 0 _ _ _ x1
    have i1 := cell_of_row _ _ 1 _ _ _ x1
    have i2 := cell_of_row _ _ 2 _ _ _ x1
    go_upto_region 4 with (go_at_call 27; (with_reducible refine K27.mono ?_); rintro e2 w2 ⟨rfl, hb2⟩; clear K27)
    have hB2 := hB1.trans (hb2.mono hB1.size)
    have x1 := (hb2.block _ (lt_of_get x1)).trans x1
    clear i0 i1 i2
    have i0 := cell_of_row _ _ 0 _ _ _ x1
    have i1 := cell_of_row _ _ 1 _ _ _ x1
    have i2 := cell_of_row _ _ 2 _ _ _ x1
    have K29 := fun W => sameN_any [] none none 0 0 W (by simp) (.inl rfl) (.inl rfl)
    rw [show ([] : List Nat).length = 0 from rfl] at K29
    by_cases h0 : e0 = 0
    · subst h0
      obtain ⟨hw1, _⟩ := cwords_zero HE.out
      obtain ⟨kg, ko, rfl⟩ := ws_addr HK.out hw1
      have K28 := says_doc D ws kg ko kc g ag cg HE.out HD.out ws.length [] ws [] [] 1 none 0 w2 rfl rfl trivial rfl (lsq_nil w2) (HK.out.below hB2) (HG.out.below hB2)
      have hA2 : ans = fs D ws [] := by rw [HA.out, if_pos HE.out]
      rw [← hA2] at K28
      have HA2 : Hid (ans = fs D ws []) := hA2
      clear hA2 hw1
      unfold vty at K28
      rw [show ([] : List Ty).length = 0 from rfl] at K28
      go_upto_region 6 with (go_at_call 28; (with_reducible refine K28.mono ?_); rintro e3 w3 ⟨v3, rfl, hb3, hv3⟩; clear K28)
      have hB3 := hB2.trans (hb3.mono hB2.size)
      obtain ⟨_, rfl⟩ : ans = none ∧ v3 = .slice none 0 0 := by
        rcases hv3 with h | ⟨r, _, _, _, h, _⟩
        · exact h
        · rw [han] at h; cases h
      clear hv3
      have K11 := fun W => begun_any W
      go_wp2_with (first | (go_at_call 11; (with_reducible refine (K11 _).mono ?_); rintro e4 w4 ⟨rfl, hb4⟩) | (go_at_call 29; (with_reducible refine (K29 _).mono ?_); rintro e5 w5 ⟨rfl, hb5⟩))
      go_ret
      exact ⟨rfl, hB3.trans ((hb4.trans (hb5.mono hb4.size)).mono hB3.size)⟩
    · have h0b : (e0 == 0) = false := by simpa using h0
      have K11 := fun W => begun_any W
      go_wp2_with (first | (go_at_call 11; (with_reducible refine (K11 _).mono ?_); rintro e4 w4 ⟨rfl, hb4⟩) | (go_at_call 29; (with_reducible refine (K29 _).mono ?_); rintro e5 w5 ⟨rfl, hb5⟩))
      go_ret
      exact ⟨rfl, hB2.trans ((hb4.trans (hb5.mono hb4.size)).mono hB2.size)⟩
  · have hB1 := hVb.trans (hb1.mono hVb.size)
    have x1 := (hb1.block _ (lt_of_get x1)).trans x1
    have K27 := K27 _ hB1
    clear i0 i1 i2
    have i0 := cell_of_row _ _ 0 _ _ _ x1
    have i1 := cell_of_row _ _ 1 _ _ _ x1
    have i2 := cell_of_row _ _ 2 _ _ _ x1
    go_upto_region 4 with (go_at_call 27; (with_reducible refine K27.mono ?_); rintro e2 w2 ⟨rfl, hb2⟩; clear K27)
    have hB2 := hB1.trans (hb2.mono hB1.size)
    have x1 := (hb2.block _ (lt_of_get x1)).trans x1
    clear i0 i1 i2
    have i0 := cell_of_row _ _ 0 _ _ _ x1
    have i1 := cell_of_row _ _ 1 _ _ _ x1
    have i2 := cell_of_row _ _ 2 _ _ _ x1
    have h0 : e0 = 0 := by
      by_cases h : e0 = 0
      · exact h
      · have := HA.out
        rw [HE.out, if_neg h, han] at this
        cases this
    subst h0
    obtain ⟨hw1, _⟩ := cwords_zero HE.out
    obtain ⟨kg, ko, rfl⟩ := ws_addr HK.out hw1
    have K28 := says_doc D ws kg ko kc g ag cg HE.out HD.out ws.length [] ws [] [] 1 none 0 w2 rfl rfl trivial rfl (lsq_nil w2) (HK.out.below hB2) (HG.out.below hB2)
    have hA2 : ans = fs D ws [] := by rw [HA.out, if_pos HE.out]
    rw [← hA2] at K28
    have HA2 : Hid (ans = fs D ws []) := hA2
    clear hA2 hw1
    unfold vty at K28
    rw [show ([] : List Ty).length = 0 from rfl] at K28
    go_upto_region 6 with (go_at_call 28; (with_reducible refine K28.mono ?_); rintro e3 w3 ⟨v3, rfl, hb3, hv3⟩; clear K28)
    have hB3 := hB2.trans (hb3.mono hB2.size)
    obtain ⟨g2, off2, c2, rfl, hns2⟩ : ∃ g2 off2 c2, v3 = .slice (some ⟨g2, off2, none⟩) r.length c2 ∧ NsAt w3 r (some ⟨g2, off2, none⟩) := by
      rcases hv3 with ⟨h, _⟩ | ⟨r', g2, off2, c2, h, h1, h2⟩
      · rw [han] at h; cases h
      · rw [han] at h
        simp only [Option.some.injEq] at h
        subst h
        exact ⟨g2, off2, c2, h1, h2⟩
    have hr6 : r.length ≤ 1000 := by
      have h1 := fs_len D ws [] r (by rw [← HA2.out, han])
      have h2 := (cwords_zero HE.out).2.1
      omega
    have hns3 := (hns.below hb2).below hb3
    have K29 := fun W (hb : Below w3.heap.size w3 W) => sameN_any r _ _ r.length c2 W hr6 (hns3.below hb) (hns2.below hb)
    clear hv3 han hns HA HA2
    have K11 := begun_any w3
    go_wp2_with (first | (go_at_call 11; (with_reducible refine K11.mono ?_); rintro e4 w4 ⟨rfl, hb4⟩; have K29 := K29 _ hb4) | (go_at_call 29; (with_reducible refine K29.mono ?_); rintro e5 w5 ⟨rfl, hb5⟩))
    go_ret
    exact ⟨rfl, hB3.trans ((hb4.trans (hb5.mono hb4.size)).mono hB3.size)⟩
end Go.Proofs.Ytbmgkgoghgdbhaa.Te
