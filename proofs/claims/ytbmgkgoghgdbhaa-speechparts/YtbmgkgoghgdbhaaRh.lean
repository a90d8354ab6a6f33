/- Prove. Condition: the lists have the room that they say. -/
import Derived.Test.YtbmgkgoghgdbhaaRg
namespace Go.Proofs.Ytbmgkgoghgdbhaa.Te
open Go.RowKit

def pf0 : Pf := ⟨0, [], ⟨0, 0, []⟩, 0, 0, []⟩
def pl0 : Pl := ⟨none, 0, none, 0, none, 0⟩
theorem results_373 {fn : Func} {p u v : Tmp} (h : fn.results = #[.cell p 37, .tmp u, .tmp v]) (tmps : Array Value) (w : World) (g1 : Nat) (cs : Array Value) (hp : tmps.getD p undef = .pointer (some ⟨g1, 0, none⟩)) (h1 : w.heap[g1]? = some (.cells cs 37 (0, 0))) (hc : cs.size = 8) : (results fn tmps).run Try.prog w = .ok (.tuple #[.agg cs, tmps.getD u undef, tmps.getD v undef]) w := by
  have l1 := run_loadVar_row (P := Try.prog) w g1 37 37 cs (0, 0) _ h1 Try.underlying37 rfl (by rw [hc]; exact size37)
  unfold results
  rw [h]
  rw [Array.getD_eq_getD_getElem?] at hp
  simp [hp, asAddr, l1]
/-- what Prove answers: a proof, if there is one -/
def ProvQ (l : List Ty) (g : Ty) (e0 : Int) (r : Bool) (w : World) (e : Ending) (w' : World) : Prop := ∃ p x, e = .returned (.tuple #[vpf p x, .bool r, .int .i64 e0]) ∧ Below w.heap.size w w' ∧ (r = true → ∃ d e0, PfAt (fun q => w.heap.size ≤ q) w' d e0 p x ∧ Good l g p) ∧ (r = false → p = pf0 ∧ x = pl0)
set_option maxRecDepth 100000 in
set_option maxHeartbeats 2000000 in
theorem Prove_any {d dg : Nat} (l : List Ty) (a : Option Addr) (c : Nat) (g : Ty) (ag : Option Addr) (cg : Nat) (w : World) (r : Bool) (hl : TyAt w (d + 1) ⟨0, 0, l⟩ a c) (hc : l.length ≤ c) (hg : TyAt w dg g ag cg) (hr : r = true ↔ cseq l g = 0 ∧ E l g) :
    Calls Try.prog 20 #[.slice a l.length c, vty g ag cg] w fun e w' => ProvQ l g (cseq l g) r w e w' := by
  have K53 := fun W hW => cseq_any l a c g ag cg W (hl.below hW) (hg.below hW)
  have HL : Hid (TyAt w (d + 1) ⟨0, 0, l⟩ a c) := hl
  have HG : Hid (TyAt w dg g ag cg) := hg
  have HCC : Hid (l.length ≤ c) := hc
  have HR : Hid (r = true ↔ cseq l g = 0 ∧ E l g) := hr
  obtain ⟨e0, he0⟩ : ∃ e0, cseq l g = e0 := ⟨_, rfl⟩
  rw [he0] at K53 ⊢
  have HE : Hid (cseq l g = e0) := he0
  clear hl hg hr he0 hc
  unfold vty at K53 ⊢
  go_enter Try.func20, Try.ntmps20
  go_upto_region 1 with fail
  obtain ⟨x1, x2, hVs, hVb⟩ := two_boxes w (.cells #[.int .i64 g.kind, .int .i64 g.n, .slice ag g.kids.length cg] 24) (.cells #[.int .i64 0, .slice none 0 0, .int .i64 0, .int .i64 0, .slice none 0 0, .int .i64 0, .int .i64 0, .slice none 0 0] 37)
  have K53 := K53 _ hVb
  generalize hV : (w.alloc (.cells #[.int .i64 g.kind, .int .i64 g.n, .slice ag g.kids.length cg] 24)).alloc (.cells #[.int .i64 0, .slice none 0 0, .int .i64 0, .int .i64 0, .slice none 0 0, .int .i64 0, .int .i64 0, .slice none 0 0] 37) = V at *
  clear hV
  have HVS : Hid (V.heap.size = w.heap.size + 2) := hVs
  clear hVs
  have i0 := cell_of_row _ _ 0 _ _ _ x1
  have i1 := cell_of_row _ _ 1 _ _ _ x1
  have i2 := cell_of_row _ _ 2 _ _ _ x1
  by_cases h0 : e0 = 0
  · subst h0
    obtain ⟨hsm, gl, gg, hne⟩ := cseq_small HE.out
    have HSM : Hid (szs l + sz g ≤ 105 ∧ (∀ t ∈ l, Gp t) ∧ Gp g ∧ l ≠ []) := ⟨hsm, gl, gg, hne⟩
    clear hsm gl gg hne
    go_upto_region 4 with (go_at_call 53; (with_reducible refine K53.mono ?_); rintro e3 w3 ⟨rfl, hb3⟩; clear K53)
    have hB3 := hVb.trans (hb3.mono hVb.size)
    have x1 := (hb3.block _ (lt_of_get x1)).trans x1
    have x2 := (hb3.block _ (lt_of_get x2)).trans x2
    clear i0 i1 i2
    have i0 := cell_of_row _ _ 0 _ _ _ x1
    have i1 := cell_of_row _ _ 1 _ _ _ x1
    have i2 := cell_of_row _ _ 2 _ _ _ x1
    have HRE : Hid (r = true ↔ E l g) := ⟨fun h => (HR.out.1 h).2, fun h => HR.out.2 ⟨HE.out, h⟩⟩
    have K54 := prove_any (d := max (d + 1) dg) (fun _ => True) l a c g ag cg w3 r (by have := HSM.out.1; omega) (fun _ _ => trivial) ⟨((HL.out.below hB3).within.keep (Q := fun _ => True) (Nat.le_refl _) (fun _ _ _ => ⟨trivial, rfl⟩)).upto (by omega), HCC.out⟩ (((HG.out.below hB3).within.keep (Q := fun _ => True) (Nat.le_refl _) (fun _ _ _ => ⟨trivial, rfl⟩)).upto (by omega)) HSM.out.2.1 HSM.out.2.2.1 HSM.out.2.2.2 HRE.out
    unfold vsq at K54
    go_upto_region 5 with (go_at_call 54; (with_reducible refine K54.mono ?_); rintro e5 w5 ⟨p3, q3, rfl, hb5, hg5⟩; clear K54; unfold vpf)
    have x14 := heap_alloc_new w5 (.cells #[.int .i64 p3.step, .slice q3.la p3.left.length q3.lc, .int .i64 p3.goal.kind, .int .i64 p3.goal.n, .slice q3.ga p3.goal.kids.length q3.gc, .int .i64 p3.ix, .int .i64 p3.n, .slice q3.ka p3.kids.length q3.kc] 37)
    have hb14 : Below w5.heap.size w5 (w5.alloc (.cells #[.int .i64 p3.step, .slice q3.la p3.left.length q3.lc, .int .i64 p3.goal.kind, .int .i64 p3.goal.n, .slice q3.ga p3.goal.kids.length q3.gc, .int .i64 p3.ix, .int .i64 p3.n, .slice q3.ka p3.kids.length q3.kc] 37)) := (Below.refl _ w5).alloc (Nat.le_refl _) _
    have hbW := hb5.trans (hb14.mono hb5.size)
    have hB5 := hB3.trans (hbW.mono hB3.size)
    have x2 := (hbW.block _ (lt_of_get x2)).trans x2
    have HG5 : Hid (r = true → ∃ e0, PfAt (fun _ => True) (w5.alloc (.cells #[.int .i64 p3.step, .slice q3.la p3.left.length q3.lc, .int .i64 p3.goal.kind, .int .i64 p3.goal.n, .slice q3.ga p3.goal.kids.length q3.gc, .int .i64 p3.ix, .int .i64 p3.n, .slice q3.ka p3.kids.length q3.kc] 37)) (max (d + 1) dg) e0 p3 q3 ∧ Good l g p3) := fun h => by
      obtain ⟨e0, h1, h2⟩ := hg5 h
      exact ⟨e0, h1.below hb14, h2⟩
    clear hg5 i0 i1 i2 x1
    generalize hV : w5.alloc (.cells #[.int .i64 p3.step, .slice q3.la p3.left.length q3.lc, .int .i64 p3.goal.kind, .int .i64 p3.goal.n, .slice q3.ga p3.goal.kids.length q3.gc, .int .i64 p3.ix, .int .i64 p3.n, .slice q3.ka p3.kids.length q3.kc] 37) = W5 at *
    clear hV
    cases r with
    | false =>
      have zq0 := cell_of_row _ _ 0 _ _ _ x2
      have zq1 := cell_of_row _ _ 1 _ _ _ x2
      have zq2 := cell_of_row _ _ 2 _ _ _ x2
      have zq3 := cell_of_row _ _ 3 _ _ _ x2
      have zq4 := cell_of_row _ _ 4 _ _ _ x2
      have zq5 := cell_of_row _ _ 5 _ _ _ x2
      have zq6 := cell_of_row _ _ 6 _ _ _ x2
      have zq7 := cell_of_row _ _ 7 _ _ _ x2
      have ze0 := frozen_of_row _ _ 0 _ 37 x2
      have ze1 := frozen_of_row _ _ 1 _ 37 x2
      have ze2 := frozen_of_row _ _ 2 _ 37 x2
      have ze3 := frozen_of_row _ _ 3 _ 37 x2
      have ze4 := frozen_of_row _ _ 4 _ 37 x2
      have ze5 := frozen_of_row _ _ 5 _ 37 x2
      have ze6 := frozen_of_row _ _ 6 _ 37 x2
      have ze7 := frozen_of_row _ _ 7 _ 37 x2
      go_wp2_with fail
      refine bodyPost_ret (results_373 rfl _ _ (w.heap.size + 1) _ rfl (laid8 x2 _ _ _ _ _ _ _ _) rfl) rfl ?_
      exact ⟨pf0, pl0, rfl, below8 hB5 (by omega) _ _ _ _ _ _ _ _, fun h => by (cases h), fun _ => ⟨rfl, rfl⟩⟩
    | true =>
      obtain ⟨e6, hp6, good6⟩ := HG5.out rfl
      have hsmp := (rt_small _ p3 (Nat.le_refl _) good6.2.2.1 good6.2.2.2 (by rw [good6.1]; exact HSM.out.2.1) (by rw [good6.2.1]; exact HSM.out.2.2.1) (by rw [good6.1, good6.2.1]; have := HSM.out.1; omega)).1.1
      have K55 := pcopy_any _ _ _ p3 q3 W5 hp6 hsmp
      unfold vpf at K55
      have HGG : Hid (Good l g p3) := good6
      clear hp6 good6 hsmp HG5
      have v0 := cell_of_row _ _ 0 _ _ _ x14
      have v1 := cell_of_row _ _ 1 _ _ _ x14
      have v2 := cell_of_row _ _ 2 _ _ _ x14
      have v3 := cell_of_row _ _ 3 _ _ _ x14
      have v4 := cell_of_row _ _ 4 _ _ _ x14
      have v5 := cell_of_row _ _ 5 _ _ _ x14
      have v6 := cell_of_row _ _ 6 _ _ _ x14
      have v7 := cell_of_row _ _ 7 _ _ _ x14
      go_wp2_with (go_at_call 55; (with_reducible refine K55.mono ?_); rintro e7 w7 ⟨x7, rfl, hp7, hb7⟩; clear K55; have x2 := (hb7.block _ (lt_of_get x2)).trans x2; have ze0 := frozen_of_row _ _ 0 _ 37 x2; have ze1 := frozen_of_row _ _ 1 _ 37 x2; have ze2 := frozen_of_row _ _ 2 _ 37 x2; have ze3 := frozen_of_row _ _ 3 _ 37 x2; have ze4 := frozen_of_row _ _ 4 _ 37 x2; have ze5 := frozen_of_row _ _ 5 _ 37 x2; have ze6 := frozen_of_row _ _ 6 _ 37 x2; have ze7 := frozen_of_row _ _ 7 _ 37 x2; have zq0 := cell_of_row _ _ 0 _ _ _ x2; have zq1 := cell_of_row _ _ 1 _ _ _ x2; have zq2 := cell_of_row _ _ 2 _ _ _ x2; have zq3 := cell_of_row _ _ 3 _ _ _ x2; have zq4 := cell_of_row _ _ 4 _ _ _ x2; have zq5 := cell_of_row _ _ 5 _ _ _ x2; have zq6 := cell_of_row _ _ 6 _ _ _ x2; have zq7 := cell_of_row _ _ 7 _ _ _ x2)
      have hB7 := hB5.trans (hb7.mono hB5.size)
      have kF := ko8 w7 (w.heap.size + 1) (.int .i64 p3.step) (.slice x7.la p3.left.length x7.lc) (.int .i64 p3.goal.kind) (.int .i64 p3.goal.n) (.slice x7.ga p3.goal.kids.length x7.gc) (.int .i64 p3.ix) (.int .i64 p3.n) (.slice x7.ka p3.kids.length x7.kc)
      have hs5 : w.heap.size + 2 ≤ W5.heap.size := by have := lt_of_get x14; have := hB3.size; have := hb5.size; have := hb3.size; have := HVS.out; omega
      refine bodyPost_ret (results_373 rfl _ _ (w.heap.size + 1) _ rfl (laid8 x2 _ _ _ _ _ _ _ _) rfl) rfl ?_
      refine ⟨p3, x7, rfl, below8 hB7 (by omega) _ _ _ _ _ _ _ _, fun _ => ⟨_, e6, hp7.keep (by simp) (fun q hq hP => ?_), HGG.out⟩, fun h => by (cases h)⟩
      have hP' : W5.heap.size ≤ q := hP
      exact ⟨by omega, kF q (by omega)⟩
  · have hrf : r = false := by
      cases hrr : r
      · rfl
      · exact absurd (HE.out.symm.trans (HR.out.1 hrr).1) h0
    subst hrf
    go_wp2_with (go_at_call 53; (with_reducible refine K53.mono ?_); rintro e3 w3 ⟨rfl, hb3⟩; clear K53; have x2 := (hb3.block _ (lt_of_get x2)).trans x2; have ze0 := frozen_of_row _ _ 0 _ 37 x2; have ze1 := frozen_of_row _ _ 1 _ 37 x2; have ze2 := frozen_of_row _ _ 2 _ 37 x2; have ze3 := frozen_of_row _ _ 3 _ 37 x2; have ze4 := frozen_of_row _ _ 4 _ 37 x2; have ze5 := frozen_of_row _ _ 5 _ 37 x2; have ze6 := frozen_of_row _ _ 6 _ 37 x2; have ze7 := frozen_of_row _ _ 7 _ 37 x2; have zq0 := cell_of_row _ _ 0 _ _ _ x2; have zq1 := cell_of_row _ _ 1 _ _ _ x2; have zq2 := cell_of_row _ _ 2 _ _ _ x2; have zq3 := cell_of_row _ _ 3 _ _ _ x2; have zq4 := cell_of_row _ _ 4 _ _ _ x2; have zq5 := cell_of_row _ _ 5 _ _ _ x2; have zq6 := cell_of_row _ _ 6 _ _ _ x2; have zq7 := cell_of_row _ _ 7 _ _ _ x2)
    have hB3 := hVb.trans (hb3.mono hVb.size)
    refine bodyPost_ret (results_373 rfl _ _ (w.heap.size + 1) _ rfl (laid8 x2 _ _ _ _ _ _ _ _) rfl) rfl ?_
    exact ⟨pf0, pl0, rfl, below8 hB3 (by omega) _ _ _ _ _ _ _ _, fun h => by (cases h), fun _ => ⟨rfl, rfl⟩⟩
end Go.Proofs.Ytbmgkgoghgdbhaa.Te
