/- HasCut, noProof, shows. Conditions: as in each. -/
import Derived.Test.YtbmgkgoghgdbhaaVa
import Derived.Test.YtbmgkgoghgdbhaaRp
import Derived.Test.YtbmgkgoghgdbhaaRj
import Derived.Test.YtbmgkgoghgdbhaaRk
namespace Go.Proofs.Ytbmgkgoghgdbhaa.Te
open Go.RowKit

theorem noCut.kid {p : Pf} (h : noCut p) {x : Pf} (hx : x ∈ p.kids) : noCut x := by
  rw [noCut] at h
  exact h.2 ⟨x, hx⟩
set_option maxRecDepth 100000 in
set_option maxHeartbeats 1000000 in
/-- where there is no cut -/
theorem hascut_any : ∀ (e : Nat) {P : Nat → Prop} {d : Nat} (p : Pf) (x : Pl) (w : World), PfAt P w d e p x → noCut p → Calls Try.prog 57 #[vpf p x] w fun e w' => e = .returned (.bool false) ∧ Below w.heap.size w w' := by
  intro e
  induction e with
  | zero => intro P d p x w h; exact h.elim
  | succ e ih =>
    intro P d p x w h hn
    have hkn := fun x (hx : x ∈ p.kids) => hn.kid hx
    have hs6 : p.step ≠ 6 := by rw [noCut] at hn; exact hn.1
    obtain ⟨_, _, _, _, _, hk, hK⟩ := h
    obtain ⟨step, left, goal, ix, n, kids⟩ := p
    obtain ⟨la, lc, ga, gc, ka, kc⟩ := x
    dsimp only at hk hK hkn hs6
    have HK : Hid (KidsAt P w d e kids ka) := hK
    have HN : Hid (∀ x ∈ kids, noCut x) := hkn
    have IH : Hid (∀ {P : Nat → Prop} {d : Nat} (p : Pf) (x : Pl) (w : World), PfAt P w d e p x → noCut p → Calls Try.prog 57 #[vpf p x] w fun e w' => e = .returned (.bool false) ∧ Below w.heap.size w w') := ih
    clear hK hkn hn ih
    unfold vpf
    dsimp only
    go_enter Try.func57, Try.ntmps57
    go_upto_region 1 with fail
    have hVb : Below w.heap.size w (w.alloc (.cells #[.int .i64 step, .slice la left.length lc, .int .i64 goal.kind, .int .i64 goal.n, .slice ga goal.kids.length gc, .int .i64 ix, .int .i64 n, .slice ka kids.length kc] 37)) := (Below.refl _ w).alloc (Nat.le_refl _) _
    have x1 := heap_alloc_new w (.cells #[.int .i64 step, .slice la left.length lc, .int .i64 goal.kind, .int .i64 goal.n, .slice ga goal.kids.length gc, .int .i64 ix, .int .i64 n, .slice ka kids.length kc] 37)
    generalize hV : w.alloc (.cells #[.int .i64 step, .slice la left.length lc, .int .i64 goal.kind, .int .i64 goal.n, .slice ga goal.kids.length gc, .int .i64 ix, .int .i64 n, .slice ka kids.length kc] 37) = V at *
    clear hV
    have i0 := cell_of_row _ _ 0 _ _ _ x1
    go_wp2
    clear i0 hs6
    go_loopw [3] (fun iv wr => ∃ k : Nat, iv = .int .i64 (k : Int) ∧ k ≤ kids.length ∧ Below w.heap.size w wr ∧ wr.heap[w.heap.size]? = some (.cells #[.int .i64 step, .slice la left.length lc, .int .i64 goal.kind, .int .i64 goal.n, .slice ga goal.kids.length gc, .int .i64 ix, .int .i64 n, .slice ka kids.length kc] 37 (0, 0))) (fun iv _ => kids.length - (intOf iv).toNat)
    case atStart => exact ⟨0, rfl, by omega, hVb, x1⟩
    case round =>
      clear x1 hVb
      obtain ⟨k, rfl, hkl', hB, z1⟩ := hrel
      have i7 := cell_of_row _ _ 7 _ _ _ z1
      by_cases hkl : k < kids.length
      · have hkl2 : (k : Int) < (kids.length : Int) := by omega
        obtain ⟨kg, ko, rfl, hkg, _, hkk⟩ : ∃ g off, ka = some ⟨g, off, none⟩ ∧ g < wr.heap.size ∧ P g ∧ ∀ j (h : j < kids.length), ∃ y, C8 wr g (off + j * 8) kids[j] y ∧ PfAt P wr d e kids[j] y := by
          rcases HK.out.below hB with h | h
          · omega
          · exact h
        obtain ⟨y, hc8, hpk⟩ := hkk k hkl
        obtain ⟨c0, c1, c2, c3, c4, c5, c6, c7⟩ := hc8
        have K57 := IH.out kids[k] y wr hpk (HN.out _ (List.getElem_mem hkl))
        unfold vpf at K57
        clear hpk hkk
        go_wp2_with (go_at_call 57; (with_reducible refine K57.mono ?_); rintro e5 w5 ⟨rfl, hb5⟩; clear K57)
        go_roundw
        case rel => exact ⟨k + 1, by go_num, by omega, hB.trans (hb5.mono hB.size), (hb5.block _ (lt_of_get z1)).trans z1⟩
        case measure => simp [intOf]; omega
      · have hkl2 : ¬ (k : Int) < (kids.length : Int) := by omega
        go_wp2
        go_ret
        exact ⟨rfl, hB⟩
theorem ty0_at (w : World) (a : Option Addr) (c : Nat) : TyAt w 1 ⟨0, 0, []⟩ a c := ⟨(by show i64B 0; constructor <;> decide), (by show i64B 0; constructor <;> decide), by simp, .inl rfl⟩
set_option maxHeartbeats 1000000 in
theorem noproof_any (w : World) : Calls Try.prog 23 #[vpf pf0 pl0] w fun e w' => e = .returned (.bool true) ∧ Below w.heap.size w w' := by
  have K16 := fun W => same_doc 1 ⟨0, 0, []⟩ none 0 1 ⟨0, 0, []⟩ none 0 W true ⟨fun _ => rfl, fun _ => rfl⟩ (ty0_at W _ _) (ty0_at W _ _)
  unfold vty at K16
  dsimp only at K16
  rw [show ([] : List Ty).length = 0 from rfl] at K16
  unfold vpf pf0 pl0
  dsimp only
  rw [show ([] : List Ty).length = 0 from rfl, show ([] : List Pf).length = 0 from rfl]
  have hb : ∀ o, Below w.heap.size w (w.alloc o) := fun o => (Below.refl _ w).alloc (Nat.le_refl _) o
  go_enter Try.func23, Try.ntmps23
  go_wp2_with (go_at_call 16; (with_reducible refine (K16 _).mono ?_); rintro e5 w5 ⟨rfl, hb5⟩; clear K16)
  go_ret
  exact ⟨rfl, (hb _).trans (hb5.mono (hb _).size)⟩
set_option maxRecDepth 100000 in
set_option maxHeartbeats 2000000 in
/-- a proof that was found shows what it should -/
theorem shows_any {P : Nat → Prop} {d e d1 d2 : Nat} (p : Pf) (x : Pl) (l : List Ty) (a : Option Addr) (c : Nat) (g : Ty) (ag : Option Addr) (cg : Nat) (w : World) (h : PfAt P w d e p x) (hl : TyAt w (d1 + 1) ⟨0, 0, l⟩ a c) (hg : TyAt w d2 g ag cg) (hz : cseq l g = 0) (hgd : Good l g p) :
    Calls Try.prog 24 #[vpf p x, .slice a l.length c, vty g ag cg] w fun e w' => e = .returned (.bool true) ∧ Below w.heap.size w w' := by
  obtain ⟨f1, f2, f3, f4, _⟩ := good_fine hz hgd
  obtain ⟨e1, e2, hr, hn⟩ := hgd
  have hpe := h
  obtain ⟨e', rfl⟩ := hpe.pos
  obtain ⟨_, _, _, hL, hG, _, _⟩ := hpe
  have K49 := fun W hW => psize_any (e' + 1) p x W 200 (h.below hW) (by omega)
  have K50 := fun W hW => pparts_any (e' + 1) p x W (h.below hW)
  have K19 := fun W hW => rp_any (e' + 1) p x W true (h.below hW) f1 f2 ⟨fun _ => hr, fun _ => rfl⟩
  have K57 := fun W hW => hascut_any (e' + 1) p x W (h.below hW) hn
  have K43 := fun W hW => ares_doc d d1 0 0 0 0 p.left l x.la x.lc a c W true ⟨fun _ => e1, fun _ => rfl⟩ (hL.1.at.below hW) (hl.below hW)
  have K16 := fun W hW => same_doc d p.goal x.ga x.gc d2 g ag cg W true ⟨fun _ => e2, fun _ => rfl⟩ (hG.at.below hW) (hg.below hW)
  unfold PsQ at K49
  rw [cap_le f3, show ((200 : Nat) : Int) = 200 from rfl] at K49
  rw [f4] at K50
  obtain ⟨n, hn'⟩ : ∃ n, szp p = n := ⟨_, rfl⟩
  rw [hn'] at K49
  have hn2 : (n : Int) ≤ 200 := by omega
  clear hL hG hl hg h e1 e2 hr hn f1 f2 f3 f4 hz hn'
  unfold vpf vty
  unfold vpf at K49 K50 K19 K57
  unfold vty at K16
  go_enter Try.func24, Try.ntmps24
  go_upto_region 1 with fail
  obtain ⟨x1, x2, hVs, hVb⟩ := two_boxes w (.cells #[.int .i64 p.step, .slice x.la p.left.length x.lc, .int .i64 p.goal.kind, .int .i64 p.goal.n, .slice x.ga p.goal.kids.length x.gc, .int .i64 p.ix, .int .i64 p.n, .slice x.ka p.kids.length x.kc] 37) (.cells #[.int .i64 g.kind, .int .i64 g.n, .slice ag g.kids.length cg] 24)
  generalize hV : (w.alloc (.cells #[.int .i64 p.step, .slice x.la p.left.length x.lc, .int .i64 p.goal.kind, .int .i64 p.goal.n, .slice x.ga p.goal.kids.length x.gc, .int .i64 p.ix, .int .i64 p.n, .slice x.ka p.kids.length x.kc] 37)).alloc (.cells #[.int .i64 g.kind, .int .i64 g.n, .slice ag g.kids.length cg] 24) = V at *
  clear hV hVs
  have i0 := cell_of_row _ _ 0 _ _ _ x1
  have i1 := cell_of_row _ _ 1 _ _ _ x1
  have i2 := cell_of_row _ _ 2 _ _ _ x1
  have i3 := cell_of_row _ _ 3 _ _ _ x1
  have i4 := cell_of_row _ _ 4 _ _ _ x1
  have i5 := cell_of_row _ _ 5 _ _ _ x1
  have i6 := cell_of_row _ _ 6 _ _ _ x1
  have i7 := cell_of_row _ _ 7 _ _ _ x1
  go_upto_region 2 with (go_at_call 49; (with_reducible refine (K49 _ hVb).mono ?_); rintro e5 w5 ⟨L, rfl, _, hb5⟩; clear K49)
  have hB5 := hVb.trans (hb5.mono hVb.size)
  have x1 := (hb5.block _ (lt_of_get x1)).trans x1
  have x2 := (hb5.block _ (lt_of_get x2)).trans x2
  have hA : ∀ (q : After w5), Below w.heap.size w q.W := fun q => hB5.trans (q.h.mono hB5.size)
  clear i0 i1 i2 i3 i4 i5 i6 i7
  have i0 := cell_of_row _ _ 0 _ _ _ x1
  have i1 := cell_of_row _ _ 1 _ _ _ x1
  have i2 := cell_of_row _ _ 2 _ _ _ x1
  have i3 := cell_of_row _ _ 3 _ _ _ x1
  have i4 := cell_of_row _ _ 4 _ _ _ x1
  have i5 := cell_of_row _ _ 5 _ _ _ x1
  have i6 := cell_of_row _ _ 6 _ _ _ x1
  have i7 := cell_of_row _ _ 7 _ _ _ x1
  clear hA
  go_wp2_with (first
    | (go_at_call 50; (with_reducible refine (K50 _ hB5).mono ?_); rintro e6 w6 ⟨rfl, hb6⟩; clear K50 i0 i1 i2 i3 i4 i5 i6 i7; have hB6 := hB5.trans (hb6.mono hB5.size); have y1 := (hb6.block _ (lt_of_get x1)).trans x1; have y2 := (hb6.block _ (lt_of_get x2)).trans x2; have i0 := cell_of_row _ _ 0 _ _ _ y1; have i1 := cell_of_row _ _ 1 _ _ _ y1; have i2 := cell_of_row _ _ 2 _ _ _ y1; have i3 := cell_of_row _ _ 3 _ _ _ y1; have i4 := cell_of_row _ _ 4 _ _ _ y1; have i5 := cell_of_row _ _ 5 _ _ _ y1; have i6 := cell_of_row _ _ 6 _ _ _ y1; have i7 := cell_of_row _ _ 7 _ _ _ y1)
    | (go_at_call 19; (with_reducible refine (K19 _ hB6).mono ?_); rintro e7 w7 ⟨rfl, hb7⟩; clear K19 i0 i1 i2 i3 i4 i5 i6 i7; have hB7 := hB6.trans (hb7.mono hB6.size); have z1 := (hb7.block _ (lt_of_get y1)).trans y1; have z2 := (hb7.block _ (lt_of_get y2)).trans y2; have i0 := cell_of_row _ _ 0 _ _ _ z1; have i1 := cell_of_row _ _ 1 _ _ _ z1; have i2 := cell_of_row _ _ 2 _ _ _ z1; have i3 := cell_of_row _ _ 3 _ _ _ z1; have i4 := cell_of_row _ _ 4 _ _ _ z1; have i5 := cell_of_row _ _ 5 _ _ _ z1; have i6 := cell_of_row _ _ 6 _ _ _ z1; have i7 := cell_of_row _ _ 7 _ _ _ z1)
    | (go_at_call 57; (with_reducible refine (K57 _ hB7).mono ?_); rintro e8 w8 ⟨rfl, hb8⟩; clear K57 i0 i1 i2 i3 i4 i5 i6 i7; have hB8 := hB7.trans (hb8.mono hB7.size); have u1 := (hb8.block _ (lt_of_get z1)).trans z1; have u2 := (hb8.block _ (lt_of_get z2)).trans z2; have i1 := cell_of_row _ _ 1 _ _ _ u1)
    | (go_at_call 43; (with_reducible refine (K43 _ hB8).mono ?_); rintro e9 w9 ⟨rfl, hb9⟩; clear K43 i1; have hB9 := hB8.trans (hb9.mono hB8.size); have v1 := (hb9.block _ (lt_of_get u1)).trans u1; have v2 := (hb9.block _ (lt_of_get u2)).trans u2; have i2 := cell_of_row _ _ 2 _ _ _ v1; have i3 := cell_of_row _ _ 3 _ _ _ v1; have i4 := cell_of_row _ _ 4 _ _ _ v1; have k0 := cell_of_row _ _ 0 _ _ _ v2; have k1 := cell_of_row _ _ 1 _ _ _ v2; have k2 := cell_of_row _ _ 2 _ _ _ v2)
    | (go_at_call 16; (with_reducible refine (K16 _ hB9).mono ?_); rintro e10 w10 ⟨rfl, hb10⟩; clear K16))
  go_ret
  exact ⟨rfl, hB9.trans (hb10.mono hB9.size)⟩
end Go.Proofs.Ytbmgkgoghgdbhaa.Te
