/- The program's change: what a right change makes of a text, in a new list. Conditions: the change is right; the text has at most 60 symbols. -/
import Derived.Test.YtkcbgapakpheiaaTu
import Derived.Test.YtkcbgapakpheiaaAp
namespace Go.Proofs.Ytkcbgapakpheiaa.Ch
open Go.RowKit Go.Shelf Sd Md Sc Ap Tu

theorem info3 : (Try.prog.info? 3).map (fun i => (i.zero, i.size, i.bytes)) = some (some (.int .i64 0), 1, 8) := by kernel_rfl
theorem ints_one (l : List Int) : ∀ u ∈ ints l, u.oneCell' = true := by
  intro u hu
  simp only [ints, List.mem_map] at hu
  obtain ⟨x, _, rfl⟩ := hu
  rfl
theorem ints_append (a b : List Int) : ints (a ++ b) = ints a ++ ints b := by simp [ints]
theorem ints_length (a : List Int) : (ints a).length = a.length := by simp [ints]

def slLen : Value → Nat | .slice _ n _ => n | _ => 0
/-- a slice from a place on -/
theorem isI_drop {w : World} {b off cap : Nat} {l : List Int} {n m : Nat} (h : IsI w (.slice (some ⟨b, off, none⟩) l.length cap) l) (hn : n ≤ l.length) (hm : m = l.length - n) :
    IsI w (.slice (if cap = n then some ⟨b, off, none⟩ else some ⟨b, off + n, none⟩) m (cap - n)) (l.drop n) := by
  obtain ⟨hl, a, c, hv, hc, hm', hz, hx⟩ := h
  simp only [Value.slice.injEq, true_and] at hv
  obtain ⟨rfl, rfl⟩ := hv
  have e : (l.drop n).length = m := by rw [List.length_drop]; omega
  refine ⟨by simp [ints], _, cap - n, by rw [e], by rw [e]; omega, by rw [e]; omega, (fun h => by split at h <;> cases h), ?_⟩
  rcases Nat.eq_zero_or_pos m with h0 | h0
  · exact .inl (by omega)
  · rw [if_neg (by omega)]
    rcases hx with hx | ⟨b', o', e', hlt, hx⟩
    · omega
    · simp only [Option.some.injEq, Addr.mk.injEq, and_true] at e'
      obtain ⟨rfl, rfl⟩ := e'
      refine .inr ⟨b, off + n, rfl, hlt, fun j u hu => ?_⟩
      have := hx (n + j) u (by rw [← hu]; simp [ints, List.getElem?_drop])
      rwa [← Nat.add_assoc] at this

theorem own_keep {w w' : World} {base e size n : Nat} {v : Value} {xs : List Value} (h : w.ownsRow base e size v n xs) (hb : Below w.heap.size w w') : w'.ownsRow base e size v n xs := by
  refine ⟨h.1, ?_⟩
  rcases h.2 with h' | ⟨g, c, cur, h1, h2, h3, h4⟩
  · exact .inl h'
  · exact .inr ⟨g, c, cur, h1, h2, (hb.block g (Array.getElem?_eq_some_iff.1 h3).1).trans h3, h4⟩
theorem own_base {w : World} {base base' e size n : Nat} {v : Value} {xs : List Value} (h : w.ownsRow base e size v n xs) (hb : base' ≤ base) : w.ownsRow base' e size v n xs := by
  refine ⟨h.1, ?_⟩
  rcases h.2 with h' | ⟨g, c, cur, h1, h2, h3⟩
  · exact .inl h'
  · exact .inr ⟨g, c, cur, h1, Nat.le_trans hb h2, h3⟩

theorem below_of_grown {w w' : World} {base e size n : Nat} {v : Value} {xs : List Value} (hg : w.grownBy w' v.ownBlock) (h : w.ownsRow base e size v n xs) (hB : base ≤ w.heap.size) : Below base w w' :=
  (Below.refl _ _).grown hg hB (fun j hj => (h.lt j hj).1)

theorem one_new (w : World) (y : Int) : IsI (w.alloc (.cells #[.int .i64 y] 3)).drew (.slice (some ⟨w.heap.size, 0, none⟩) 1 1) [y] := by
  refine ⟨rfl, some ⟨w.heap.size, 0, none⟩, 1, rfl, Nat.le_refl _, (by simp), (fun h => by cases h), .inr ⟨w.heap.size, 0, rfl, by simp, fun j u hu => ?_⟩⟩
  match j, hu with
  | 0, hu => simp [ints] at hu ⊢; exact hu

set_option maxHeartbeats 4000000 in
theorem change_any (x : VC) (vx : Value) (text : List Int) (w : World) (h : IsC w x) (hg : Sd.Good x.c) (hx : IsI w vx text) (htl : text.length ≤ 60) :
    Calls Try.prog 51 #[x.val, vx] w fun e w' => ∃ v, e = .returned v ∧ IsI w' v (change x.c text) ∧ w'.ownsRow w.heap.size 3 1 v (change x.c text).length (ints (change x.c text)) ∧ Below w.heap.size w w' := by
  obtain ⟨⟨kk, frm, to, left, right⟩, vf, vt, vl, vr, ls, rs⟩ := x
  have HC : Hid (IsC w ⟨⟨kk, frm, to, left, right⟩, vf, vt, vl, vr, ls, rs⟩) := h
  have HG : Hid (Sd.Good ⟨kk, frm, to, left, right⟩) := hg
  obtain ⟨hl, hr, hf, ht, hls, hrs, _⟩ := h
  dsimp only at hl hr hf ht hls hrs ⊢
  have f1 := hg.f1
  have f2 := hg.f2
  have t2 := hg.t2
  have l2 := hg.l2
  have r1 := hg.r1
  dsimp only at f1 f2 t2 l2 r1
  have el : ls.length ≤ 2 := by rw [← hl, sps_length] at l2; exact l2
  have er : rs.length ≤ 1 := by rw [← hr, sps_length] at r1; exact r1
  have HB : Hid (1 ≤ frm.length ∧ frm.length ≤ 2 ∧ to.length ≤ 2 ∧ ls.length ≤ 2 ∧ rs.length ≤ 1 ∧ text.length ≤ 60) := ⟨f1, f2, t2, el, er, htl⟩
  obtain ⟨af, cf, hv, _, _⟩ := hf.len
  subst hv
  obtain ⟨at', ct, hv, _, _⟩ := ht.len
  subst hv
  obtain ⟨al, cl, hv, _, _⟩ := hls.len
  subst hv
  obtain ⟨ar, cr, hv, _, _⟩ := hrs.len
  subst hv
  obtain ⟨ax, cx, hv, _, _⟩ := hx.len
  subst hv
  obtain ⟨i0, hi, hz0, hz1, hz2⟩ := info_parts info3
  have hb : ∀ o, Below w.heap.size w (w.alloc o) := fun o => (Below.refl _ _).alloc (Nat.le_refl _) _
  have HX : Hid (IsI w (.slice ax text.length cx) text) := hx
  simp only [VC.val]
  clear hl hr hf ht hls hrs hg f1 f2 t2 l2 r1 el er htl hx
  go_enter Try.func51, Try.ntmps51
  go_wp2
  go_loopw [1, 5] (fun v1 v5 wr => ∃ (out rest : List Int), IsI w v1 rest ∧ wr.ownsRow (w.heap.size + 1) 3 1 v5 out.length (ints out) ∧ Below (w.heap.size + 1) (w.alloc (.cells #[.int .i64 kk, .slice af frm.length cf, .slice at' to.length ct, .slice al ls.length cl, .slice ar rs.length cr] 58)) wr ∧ Hid (going ⟨kk, frm, to, left, right⟩ out rest = change ⟨kk, frm, to, left, right⟩ text ∧ out.length + 2 * rest.length ≤ 2 * text.length ∧ rest.length ≤ text.length)) (fun v1 _ _ => slLen v1)
  case atStart => exact ⟨[], text, HX, World.ownsRow_nil _ _ _ _, Below.refl _ _, rfl, by simp, by omega⟩
  case round =>
    obtain ⟨out, rest, hI, hown, hbw, hall⟩ := hrel
    have hsz := hbw.size
    simp only [World.size_alloc] at hsz
    have hbT : Below w.heap.size w wr := (hb _).trans (hbw.mono (by omega))
    have g0 : wr.cell? ⟨w.heap.size, 0, none⟩ = some (.int .i64 kk) := by rw [hbw.cell (by show w.heap.size < w.heap.size + 1; omega)]; simp
    have g1 : wr.cell? ⟨w.heap.size, 1, none⟩ = some (.slice af frm.length cf) := by rw [hbw.cell (by show w.heap.size < w.heap.size + 1; omega)]; simp
    have g2 : wr.cell? ⟨w.heap.size, 2, none⟩ = some (.slice at' to.length ct) := by rw [hbw.cell (by show w.heap.size < w.heap.size + 1; omega)]; simp
    have g3 : wr.cell? ⟨w.heap.size, 3, none⟩ = some (.slice al ls.length cl) := by rw [hbw.cell (by show w.heap.size < w.heap.size + 1; omega)]; simp
    have g4 : wr.cell? ⟨w.heap.size, 4, none⟩ = some (.slice ar rs.length cr) := by rw [hbw.cell (by show w.heap.size < w.heap.size + 1; omega)]; simp
    rcases hI.shape with ⟨a, cap, rfl, rfl⟩ | ⟨b, off, cap, rfl, hlt, hn, hm, h0, hc⟩
    · have hres := hall.out.1
      have hlen : out.length ≤ 140737488355328 := by
        have := hall.out.2
        have := HB.out
        omega
      rw [going_nil] at hres
      subst hres
      clear hall
      go_wp2
      go_ret
      exact ⟨_, rfl, isI_of_own hown hlen, own_base hown (by omega), hbT⟩
    · have hbo := HB.out
      have hao := hall.out
      have con28 := turns_any ⟨⟨kk, frm, to, left, right⟩, _, _, _, _, ls, rs⟩ _ _ out rest wr (HC.out.below (Nat.le_refl _) hbT) (isI_of_own hown (by omega)) (hI.below (Nat.le_refl _) hbT) (by dsimp only; omega) h0 (by omega) (by omega) (by dsimp only; omega) (by dsimp only; omega) (by dsimp only; omega)
      simp only [VC.val] at con28
      have hrest : rest.length ≤ 60 := by omega
      have hout : out.length ≤ 120 := by omega
      have hto : to.length ≤ 2 := by omega
      clear hbo hao
      generalize hr : here ⟨kk, frm, to, left, right⟩ out rest = r at con28
      cases r with
      | true =>
        have hle : frm.length ≤ rest.length := here_len hr
        have HN : Hid (going ⟨kk, frm, to, left, right⟩ (out ++ to) (rest.drop frm.length) = change ⟨kk, frm, to, left, right⟩ text ∧ (out ++ to).length + 2 * (rest.drop frm.length).length ≤ 2 * text.length ∧ (rest.drop frm.length).length ≤ text.length) := by
          have hao := hall.out
          have hbo := HB.out
          refine ⟨?_, ?_, ?_⟩
          · rw [← going_yes HG.out.f1 (by intro e; rw [e] at h0; simp at h0) hr]
            exact hao.1
          · rw [List.length_append, List.length_drop]
            omega
          · rw [List.length_drop]
            omega
        have hfp : 0 < frm.length := HB.out.1
        clear hall hr
        have hlc : frm.length ≤ cap := by omega
        have hD := fun m hm => isI_drop (n := frm.length) (m := m) hI hle hm
        obtain ⟨A, hA⟩ : ∃ A, (if cap = frm.length then some (⟨b, off, none⟩ : Addr) else some ⟨b, off + frm.length, none⟩) = A := ⟨_, rfl⟩
        rw [hA] at hD
        clear hI hc HX
        go_wp2_with (go_at_call 62; with_reducible refine con28.mono ?_; rintro e w2 ⟨rfl, hb2⟩; have k1 : w2.cell? ⟨w.heap.size, 1, none⟩ = some (.slice af frm.length cf) := (hb2.cell (p := ⟨w.heap.size, 1, none⟩) (by show w.heap.size < _; omega)).trans g1; have k2 : w2.cell? ⟨w.heap.size, 2, none⟩ = some (.slice at' to.length ct) := (hb2.cell (p := ⟨w.heap.size, 2, none⟩) (by show w.heap.size < _; omega)).trans g2; have own2 := own_keep hown hb2; have hbT2 := hbT.trans (hb2.mono hbT.size); have hT2 := HC.out.t.below (Nat.le_refl _) hbT2)
        have hsz2 := hbT2.size
        have hbw2 := hbw.trans (hb2.mono hsz)
        have hs2 := hb2.size
        have own2d := own2.drew
        have hT2d : IsI w2.drew (.slice at' to.length ct) to := hT2.below (Nat.le_refl _) (Below.refl _ _).drew
        clear hT2 own2 con28
        go_region_law (refine step_app _ rfl (.tmp 13) (.tmp 15) 27 rfl (w.heap.size + 1) 3 i0 (.int .i64 0) 1 8 Try.underlying27 hi hz0 hz1 hz2 rfl (by decide) _ _ _ rfl own2d _ _ _ rfl hT2d (ints_one to) (by unfold maxLen; omega) (by omega) (by simp; omega) ?_; intro v' W3 hown3 hgrow3; have m1 : W3.cell? ⟨w.heap.size, 1, none⟩ = some (.slice af frm.length cf) := (below_of_grown hgrow3 own2d (by simp; omega)).cell (p := ⟨w.heap.size, 1, none⟩) (by show w.heap.size < w.heap.size + 1; omega) |>.trans k1)
        all_goals (try go_simp)
        all_goals go_wp2
        all_goals (try go_big_round)
        all_goals exact ⟨⟨out ++ to, rest.drop frm.length, hD _ rfl, by rw [ints_append, List.length_append]; exact hown3, hbw2.drew.trans (below_of_grown hgrow3 own2d (by simp; omega)), HN⟩, by simp [slLen]; omega⟩
      | false =>
        obtain ⟨y, rest', rfl⟩ : ∃ y l, rest = y :: l := by
          cases rest with
          | nil => simp at h0
          | cons y l => exact ⟨y, l, rfl⟩
        have HN : Hid (going ⟨kk, frm, to, left, right⟩ (out ++ [y]) rest' = change ⟨kk, frm, to, left, right⟩ text ∧ (out ++ [y]).length + 2 * rest'.length ≤ 2 * text.length ∧ rest'.length ≤ text.length) := by
          have hao := hall.out
          simp only [List.length_cons] at hao
          refine ⟨?_, ?_, by omega⟩
          · rw [← going_no hr]
            exact hao.1
          · simp only [List.length_append, List.length_cons, List.length_nil]
            omega
        clear hall hr
        simp only [List.length_cons] at hn hm h0 hrest hI
        have hD : IsI w (.slice (if cap = 1 then some ⟨b, off, none⟩ else some ⟨b, off + 1, none⟩) rest'.length (cap - 1)) rest' := isI_drop (n := 1) (l := y :: rest') hI (by simp) (by simp)
        obtain ⟨A, hA⟩ : ∃ A, (if cap = 1 then some (⟨b, off, none⟩ : Addr) else some ⟨b, off + 1, none⟩) = A := ⟨_, rfl⟩
        rw [hA] at hD
        have hy : w.cell? ⟨b, off, none⟩ = some (.int .i64 y) := by
          rcases hI.shape with ⟨_, _, _, e⟩ | ⟨b', o', c', hv, _, _, _, _, hc'⟩
          · simp at e
          · simp only [Value.slice.injEq, Option.some.injEq, Addr.mk.injEq, and_true] at hv
            obtain ⟨⟨rfl, rfl⟩, _⟩ := hv
            have := hc' 0 (by simp)
            rw [Nat.add_zero] at this
            exact this
        have hbl : b < w.heap.size := by
          rcases hI.shape with ⟨_, _, _, e⟩ | ⟨b', o', c', hv, hlt', _⟩
          · simp at e
          · simp only [Value.slice.injEq, Option.some.injEq, Addr.mk.injEq, and_true] at hv
            omega
        clear hI hc HX
        simp only [List.length_cons] at con28
        go_wp2_with (go_at_call 62; with_reducible refine con28.mono ?_; rintro e w2 ⟨rfl, hb2⟩; have own2 := own_keep hown hb2; have hbT2 := hbT.trans (hb2.mono hbT.size); have cy : w2.cell? ⟨b, off, none⟩ = some (.int .i64 y) := (hbT2.cell (p := ⟨b, off, none⟩) hbl).trans hy)
        have hsz2 := hbT2.size
        have hbw2 := hbw.trans (hb2.mono hsz)
        have hs2 := hb2.size
        have own2d := (own2.alloc (.cells #[.int .i64 y] 3)).drew
        have hT2d : Row (w2.alloc (.cells #[.int .i64 y] 3)).drew (.slice (some ⟨w2.heap.size, 0, none⟩) 1 1 ) 1 1 (ints [y]) := one_new w2 y
        have hq : (1 : Int) ≤ (rest'.length : Int) + 1 := by omega
        clear own2 con28
        go_region_law (refine step_app _ rfl (.tmp 22) (.tmp 26) 27 rfl (w.heap.size + 1) 3 i0 (.int .i64 0) 1 8 Try.underlying27 hi hz0 hz1 hz2 rfl (by decide) _ _ _ rfl own2d _ _ _ rfl hT2d (ints_one [y]) (by unfold maxLen; omega) (by omega) (by simp; omega) ?_; intro v' W3 hown3 hgrow3)
        all_goals (try go_simp)
        all_goals go_wp2
        all_goals (try go_big_round)
        all_goals exact ⟨⟨out ++ [y], rest', hD, by rw [ints_append, List.length_append]; exact hown3, ((hbw2.alloc (by omega) _).drew).trans (below_of_grown hgrow3 own2d (by simp; omega)), HN⟩, by simp [slLen]⟩
end Go.Proofs.Ytkcbgapakpheiaa.Ch
