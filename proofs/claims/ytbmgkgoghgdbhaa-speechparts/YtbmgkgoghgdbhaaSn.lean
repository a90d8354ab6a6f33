/- proveFrom, on condition of what it calls for less. Condition: the sequent is small. -/
import Derived.Test.YtbmgkgoghgdbhaaSmM
namespace Go.Proofs.Ytbmgkgoghgdbhaa.Te
open Go.RowKit

theorem base_is {l : List Ty} {k : Nat} {b b' : Int} (hk : k < l.length) (e : l[k] = bs b') : EH (l.take k) l[k] (l.drop (k + 1)) (bs b) ↔ l = [bs b] := by
  rw [e]
  constructor
  · intro h
    rcases EH_inv h with ⟨q, e1, _, h1, h2⟩ | ⟨x', y', D, B', e1, _⟩ | ⟨y', x', A', D, e1, _⟩
    · have h3 := List.take_append_drop k l
      rw [List.drop_eq_getElem_cons hk, h1, h2, e, e1] at h3
      exact h3.symm
    · exact (ov_bs e1.symm).elim
    · exact (un_bs e1.symm).elim
  · rintro rfl
    have : k = 0 := by simpa using hk
    subst this
    simp only [List.getElem_cons_zero] at e
    rw [← e]
    exact EH_same b
set_option maxRecDepth 100000 in
set_option maxHeartbeats 1000000 in
theorem from_base {P : Nat → Prop} {d : Nat} (l : List Ty) (a : Option Addr) (c : Nat) (b : Int) (ag : Option Addr) (cg k : Nat) (hk : k < l.length) (w : World) (r : Bool) (hle : l.length < 800) (hP : ∀ q, w.heap.size ≤ q → P q) (hl : LsAt P w d l a c) (hg : TyP P w d (bs b) ag cg) (gl : ∀ t ∈ l, Gp t) (gg : Gp (bs b)) (hr : r = true ↔ EH (l.take k) l[k] (l.drop (k + 1)) (bs b)) (hkd : l[k].kind = 1) :
    Calls Try.prog 73 #[vsq l a c (bs b) ag cg, .int .i64 (k : Int)] w fun e w' => PrQ P d l (bs b) r w e w' := by
  obtain ⟨ga, off, rfl, hga⟩ := hl.addr (by omega)
  obtain ⟨a', c', _, y0, _, _, _⟩ := hl.at (j := k) hk
  have hbase : ∃ b', l[k] = bs b' := by
    rcases gp_cases (gl _ (List.getElem_mem hk)) with ⟨b', h, _⟩ | ⟨x, y, h, _⟩ | ⟨_, _, h, _⟩
    · exact ⟨b', h⟩
    · rw [h] at hkd; simp [ov] at hkd
    · rw [h] at hkd; simp [un] at hkd
  obtain ⟨b', hb'⟩ := hbase
  rw [base_is hk hb'] at hr
  have HR : Hid (r = true ↔ l = [bs b]) := hr
  rw [hkd] at y0
  have hk' : (k : Int) < (l.length : Int) := by omega
  have b1 : (0 : Int) ≤ k ∧ (k : Int) < 800 := by omega
  have HL : Hid (LsAt P w d l (some ⟨ga, off, none⟩) c) := hl
  have HG : Hid (TyP P w d (bs b) ag cg) := hg
  have GL : Hid (∀ t ∈ l, Gp t) := gl
  have GG : Hid (Gp (bs b)) := gg
  have HP : Hid (∀ q, w.heap.size ≤ q → P q) := hP
  clear hl hg gl gg hr hkd hb' hP
  unfold vsq
  rw [show (bs b).kind = 1 from rfl, show (bs b).n = b from rfl, show (bs b).kids.length = 0 from rfl]
  go_enter Try.func73, Try.ntmps73
  go_upto_region 1 with fail
  obtain ⟨x1, x2, hVs, hVb⟩ := two_boxes w (.cells #[.slice (some ⟨ga, off, none⟩) l.length c, .int .i64 1, .int .i64 b, .slice ag 0 cg] 79) (.cells #[.int .i64 0, .slice none 0 0, .int .i64 0, .int .i64 0, .slice none 0 0, .int .i64 0, .int .i64 0, .slice none 0 0] 37)
  generalize hV : (w.alloc (.cells #[.slice (some ⟨ga, off, none⟩) l.length c, .int .i64 1, .int .i64 b, .slice ag 0 cg] 79)).alloc (.cells #[.int .i64 0, .slice none 0 0, .int .i64 0, .int .i64 0, .slice none 0 0, .int .i64 0, .int .i64 0, .slice none 0 0] 37) = V at *
  clear hV
  have y0 := (hVb.cell (p := ⟨ga, _, none⟩) hga).trans y0
  have s0 := cell_of_row _ _ 0 _ _ _ x1
  have s1 := cell_of_row _ _ 1 _ _ _ x1
  have s2 := cell_of_row _ _ 2 _ _ _ x1
  have s3 := cell_of_row _ _ 3 _ _ _ x1
  go_upto_region 3 with fail
  have hb3 : Below V.heap.size V (V.alloc (.cells #[.int .i64 1, .slice (some ⟨ga, off, none⟩) l.length c, .int .i64 1, .int .i64 b, .slice ag 0 cg, .int .i64 0, .int .i64 0, .slice none 0 0] 37)) := (Below.refl _ V).alloc (Nat.le_refl _) _
  have x3 : (V.alloc (.cells #[.int .i64 1, .slice (some ⟨ga, off, none⟩) l.length c, .int .i64 1, .int .i64 b, .slice ag 0 cg, .int .i64 0, .int .i64 0, .slice none 0 0] 37)).heap[w.heap.size + 2]? = some (.cells #[.int .i64 1, .slice (some ⟨ga, off, none⟩) l.length c, .int .i64 1, .int .i64 b, .slice ag 0 cg, .int .i64 0, .int .i64 0, .slice none 0 0] 37 (0, 0)) := by rw [← hVs]; exact heap_alloc_new V _
  have x2 := (hb3.block _ (lt_of_get x2)).trans x2
  have hVb2 := hVb.trans (hb3.mono hVb.size)
  generalize hV : V.alloc (.cells #[.int .i64 1, .slice (some ⟨ga, off, none⟩) l.length c, .int .i64 1, .int .i64 b, .slice ag 0 cg, .int .i64 0, .int .i64 0, .slice none 0 0] 37) = W at *
  clear hV x1 y0
  have K66 := bef_any (P := P) (d := d) (e0 := 0) ⟨1, l, bs b, 0, 0, []⟩ ⟨some ⟨ga, off, none⟩, c, ag, cg, none, 0⟩ W (pf_bare (HL.out.below hVb2) (HG.out.below hVb2) (by constructor <;> omega) (by constructor <;> omega) (by constructor <;> omega)) GL.out GG.out (by dsimp only; omega) (fun q hq => HP.out q (Nat.le_trans hVb2.size hq))
  unfold vpf at K66
  dsimp only at K66
  rw [show (bs b).kind = 1 from rfl, show (bs b).n = b from rfl, show (bs b).kids.length = 0 from rfl, show ([] : List Pf).length = 0 from rfl] at K66
  rw [hVs] at *
  have m0 := cell_of_row _ _ 0 _ _ _ x3
  have m1 := cell_of_row _ _ 1 _ _ _ x3
  have m2 := cell_of_row _ _ 2 _ _ _ x3
  have m3 := cell_of_row _ _ 3 _ _ _ x3
  have m4 := cell_of_row _ _ 4 _ _ _ x3
  have m5 := cell_of_row _ _ 5 _ _ _ x3
  have m6 := cell_of_row _ _ 6 _ _ _ x3
  have m7 := cell_of_row _ _ 7 _ _ _ x3
  go_upto_region 4 with (go_at_call 66; (with_reducible refine K66.mono ?_); rintro e5 w5 ⟨v5, r5, rfl, hb5, hn5, hs5⟩; clear K66)
  have hz2 := (hb5.block _ (lt_of_get x2)).trans x2
  have hrow := (hb5.block _ (lt_of_get x3)).trans x3
  have hw5 := hVb2.trans (hb5.mono hVb2.size)
  have hr5 : r5 = r := by
    by_cases e : l = [bs b]
    · have h1 := (bef_same (left := l) (goal := bs b) (kids := []) (by rw [e]; simp)).1 e
      have h2 := (hs5 _ h1).1
      rw [h2, HR.out.2 e]
    · have h1 := (bef_same (left := l) (goal := bs b) (kids := []) (by intro e; rw [e] at hk; simp at hk)).2 e
      have h2 := hn5 h1
      rw [h2]
      cases hrr : r
      · rfl
      · exact absurd (HR.out.1 hrr) e
  subst hr5
  clear hs5 hn5 m0 m1 m2 m3 m4 m5 m6 m7
  have p0 := cell_of_row _ _ 0 _ _ _ hrow
  have p1 := cell_of_row _ _ 1 _ _ _ hrow
  have p2 := cell_of_row _ _ 2 _ _ _ hrow
  have p3 := cell_of_row _ _ 3 _ _ _ hrow
  have p4 := cell_of_row _ _ 4 _ _ _ hrow
  have p5 := cell_of_row _ _ 5 _ _ _ hrow
  have p6 := cell_of_row _ _ 6 _ _ _ hrow
  have p7 := cell_of_row _ _ 7 _ _ _ hrow
  have q0 := cell_of_row _ _ 0 _ _ _ hz2
  have q1 := cell_of_row _ _ 1 _ _ _ hz2
  have q2 := cell_of_row _ _ 2 _ _ _ hz2
  have q3 := cell_of_row _ _ 3 _ _ _ hz2
  have q4 := cell_of_row _ _ 4 _ _ _ hz2
  have q5 := cell_of_row _ _ 5 _ _ _ hz2
  have q6 := cell_of_row _ _ 6 _ _ _ hz2
  have q7 := cell_of_row _ _ 7 _ _ _ hz2
  have e0 := frozen_of_row _ _ 0 _ 37 hz2
  have e1 := frozen_of_row _ _ 1 _ 37 hz2
  have e2 := frozen_of_row _ _ 2 _ 37 hz2
  have e3 := frozen_of_row _ _ 3 _ 37 hz2
  have e4 := frozen_of_row _ _ 4 _ 37 hz2
  have e5 := frozen_of_row _ _ 5 _ 37 hz2
  have e6 := frozen_of_row _ _ 6 _ 37 hz2
  have e7 := frozen_of_row _ _ 7 _ 37 hz2
  go_wp2_with fail
  refine bodyPost_ret (results_37 rfl _ _ (w.heap.size + 1) _ rfl (laid8 hz2 _ _ _ _ _ _ _ _) rfl) rfl ?_
  refine ⟨⟨1, l, bs b, 0, 0, []⟩, ⟨some ⟨ga, off, none⟩, c, ag, cg, none, 0⟩, rfl, below8 hw5 (by omega) _ _ _ _ _ _ _ _, fun h => ?_⟩
  have hbe := below8 hw5 (b := w.heap.size + 1) (by omega) (.int .i64 1) (.slice (some ⟨ga, off, none⟩) l.length c) (.int .i64 1) (.int .i64 b) (.slice ag 0 cg) (.int .i64 0) (.int .i64 0) (.slice none 0 0)
  refine ⟨1, pf_bare (HL.out.below hbe) (HG.out.below hbe) (by constructor <;> omega) (by constructor <;> omega) (by constructor <;> omega), ?_⟩
  have e := HR.out.1 h
  subst e
  exact good_same
end Go.Proofs.Ytbmgkgoghgdbhaa.Te
