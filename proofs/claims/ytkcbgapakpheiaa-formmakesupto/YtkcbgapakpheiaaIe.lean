/- The program's innerEdge of a change whose lists are short enough. Condition: tooLong says no. -/
import Derived.Test.YtkcbgapakpheiaaTl
namespace Go.Proofs.Ytkcbgapakpheiaa.Ie
open Go.RowKit Go.Shelf Sd Md Sc Sp Tl

theorem en34 : ∀ args w, (callFunc 59 args).run Try.prog w = .ok (.enter 59 args) w := enters_of Try.func59 (by kernel_rfl) rfl
theorem vscs_drop1 (p : VS) (l : List VS) : (vscs (p :: l)).drop 2 = vscs l := by simp [vscs, vsc]
theorem isS_drop1 {w : World} {b off cap : Nat} {p : VS} {l : List VS} (h : IsS w (.slice (some ⟨b, off, none⟩) (l.length + 1) cap) (p :: l)) :
    IsS w (.slice (if cap = 1 then some ⟨b, off, none⟩ else some ⟨b, off + 2, none⟩) l.length (cap - 1)) l := by
  obtain ⟨⟨hl, a, c, hv, hn, hm, hz, hc⟩, hE⟩ := h
  simp only [Value.slice.injEq, List.length_cons] at hv hn hm hc
  obtain ⟨rfl, _, rfl⟩ := hv
  refine ⟨⟨vscs_length l, _, _, rfl, by omega, by omega, (fun h => by split at h <;> cases h), ?_⟩, fun q hq => hE q (List.mem_cons_of_mem _ hq)⟩
  rcases Nat.eq_zero_or_pos l.length with e | e
  · exact .inl e
  · rw [if_neg (by omega)]
    rcases hc with hc | ⟨b', o', e', hlt, hc⟩
    · omega
    · simp only [Option.some.injEq, Addr.mk.injEq, and_true] at e'
      obtain ⟨rfl, rfl⟩ := e'
      refine .inr ⟨b, off + 2, rfl, hlt, fun j u hu => ?_⟩
      have := hc (2 + j) u (by rw [← List.getElem?_drop, vscs_drop1]; exact hu)
      rwa [← Nat.add_assoc] at this

set_option maxHeartbeats 1000000 in
theorem innerEdge_any (x : VC) (w : World) (h : IsC w x) (hs : x.c.sizeB = false) : Calls Try.prog 44 #[x.val] w fun e w' => e = .returned (.bool x.c.formB) ∧ Below w.heap.size w w' := by
  obtain ⟨⟨k, frm, to, left, right⟩, vf, vt, vl, vr, ls, rs⟩ := x
  obtain ⟨hl, hr, hf, ht, hls, hrs, _⟩ := h
  dsimp only at hl hr hf ht hls hrs hs
  subst hl hr
  have er : (sps rs).length = rs.length := List.length_map ..
  have hr1 : rs.length ≤ 1 := by
    simp only [Ch.sizeB, Bool.or_eq_false_iff, decide_eq_false_iff_not, er] at hs
    omega
  have e2 : ((sps rs).take ((sps rs).length - 1)).any Sp.edge = false := by
    rw [er, show rs.length - 1 = 0 by omega]
    rfl
  simp only [VC.val, Ch.formB, e2, Bool.or_false]
  clear e2 hs hf ht
  have hb : ∀ o, Below w.heap.size w (w.alloc o) := fun o => (Below.refl _ _).alloc (Nat.le_refl _) _
  obtain ⟨ar, cr, hv, _, _⟩ := hrs.len
  subst hv
  have hr01 : rs.length = 0 ∨ (rs.length = 1 ∧ ∃ b off, ar = some ⟨b, off, none⟩) := by
    rcases hrs.shape with ⟨a, cap, _, e⟩ | ⟨b, off, cap, hv, _, _, _, h0, _⟩
    · exact .inl (by rw [e]; rfl)
    · simp only [Value.slice.injEq] at hv
      exact .inr ⟨by omega, b, off, hv.1⟩
  clear hrs hr1 er
  cases ls with
  | nil =>
    obtain ⟨al, cl, hv, _, _⟩ := hls.len
    subst hv
    clear hls
    simp only [List.length_nil, sps, List.map_nil, List.drop_nil, List.any_nil]
    rcases hr01 with e | ⟨e, b, off, rfl⟩
    · simp only [e]
      go_enter Try.func44, Try.ntmps44
      go_wp2
      go_ret
      exact ⟨rfl, hb _⟩
    · simp only [e]
      go_enter Try.func44, Try.ntmps44
      go_wp2_with (go_at_call 41; refine (none20 _ _ _ _).mono ?_; rintro e w1 ⟨rfl, rfl⟩)
      go_ret
      exact ⟨rfl, hb _⟩
  | cons p l =>
    rcases hls.shape with ⟨a, cap, _, e⟩ | ⟨b, off, cap, hv, hlt, hn, hm, h0, hc⟩
    · simp at e
    · subst hv
      simp only [List.length_cons] at hls hn hm h0 ⊢
      have hd := isS_drop1 hls
      obtain ⟨A, hA⟩ : ∃ A, (if cap = 1 then some (⟨b, off, none⟩ : Addr) else some ⟨b, off + 2, none⟩) = A := ⟨_, rfl⟩
      rw [hA] at hd
      have con := fun o => anyS _ l Sp.edge 59 #[] (w.alloc o) (hd.below (Nat.le_refl _) (hb o)) en34 (fun W x _ _ => edge_any x W)
      clear hd hls hc
      have es : (sps (p :: l)).drop 1 = sps l := rfl
      rw [es]
      clear es
      generalize (sps l).any Sp.edge = r at con ⊢
      cases r with
      | true =>
        go_enter Try.func44, Try.ntmps44
        go_wp2_with (go_at_call 41; refine (con _).mono ?_; rintro e w1 ⟨rfl, hb1⟩)
        go_ret
        exact ⟨rfl, (hb _).trans (hb1.mono (by simp))⟩
      | false =>
        rcases hr01 with e | ⟨e, b, off, rfl⟩
        · simp only [e]
          go_enter Try.func44, Try.ntmps44
          go_wp2_with (go_at_call 41; refine (con _).mono ?_; rintro e w1 ⟨rfl, hb1⟩; have c4 : w1.cell? ⟨w.heap.size, 4, none⟩ = _ := hb1.cell (by simp))
          go_ret
          exact ⟨rfl, (hb _).trans (hb1.mono (by simp))⟩
        · simp only [e]
          go_enter Try.func44, Try.ntmps44
          go_wp2_with (first | (go_at_call 41; with_reducible refine (con _).mono ?_; rintro e w1 ⟨rfl, hb1⟩; have c4 : w1.cell? ⟨w.heap.size, 4, none⟩ = _ := hb1.cell (by simp)) | (go_at_call 41; refine (none20 _ _ _ _).mono ?_; rintro e w2 ⟨rfl, rfl⟩))
          go_ret
          exact ⟨rfl, (hb _).trans (hb1.mono (by simp))⟩
end Go.Proofs.Ytkcbgapakpheiaa.Ie
