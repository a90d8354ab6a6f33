/- What comes of edits that take just a text's units. Condition: at most 1048576 edits. -/
import Derived.Test.YtiiheaopamjijaaDr
import Derived.Test.YtiiheaopamjijaaShelf
import Derived.Test.YtiiheaopamjijaaShelf3
namespace Go.Proofs.Ytiiheaopamjijaa.Ed
open Go.RowKit Uni UnitsP Rw Un Rv Wf Dr

/-- what edits make from a place on -/
def edR (p : List ByteArray) : List (Int × ByteArray) → ByteArray → Nat → ByteArray
  | [], out, _ => out
  | e :: es, out, i => edR p es (out ++ (if e.1 = 1 then p[i]?.getD ByteArray.empty else e.2)) (if e.1 = 4 then i else i + 1)
/-- how many units edits take -/
def tk : List (Int × ByteArray) → Nat
  | [] => 0
  | e :: es => (if e.1 = 4 then 0 else 1) + tk es
theorem well_size (k : Int) (t : ByteArray) (h : well k t = true) : t.size ≤ 4 := by
  unfold well at h
  split at h
  · have : t = ByteArray.empty := by simpa using h
    rw [this]; decide
  · split at h
    · exact one_size t h
    · cases h
theorem takes_alloc (k : Int) (t : ByteArray) (w : World) : Calls Try.prog 18 #[.agg #[.int .i64 k, .string t]] w fun e w' => e = .returned (.bool (k != 4)) ∧ ∃ o, w' = w.alloc o := by
  go_enter Try.func18, Try.ntmps18
  go_wp2
  go_ret
  exact ⟨rfl, _, rfl⟩
theorem kept2 {wr w2 : World} {x y : Value} {B : Nat} (hB : B < wr.heap.size) (ho : Lib.OthersKept 5 (some B) (wr.alloc (.cells #[x, y] 34)) w2) : w2.cell? ⟨wr.heap.size, 0, none⟩ = some x ∧ w2.cell? ⟨wr.heap.size, 1, none⟩ = some y := by
  have hblk : w2.heap[wr.heap.size]? = some (.cells #[x, y] 34) := ho _ _ (heap_alloc_last wr _) (by simp; omega) (by intro c fz h; injection h with _ h2 _; exact absurd h2 (by decide))
  exact ⟨by rw [cell_of_row _ _ _ _ _ _ hblk]; rfl, by rw [cell_of_row _ _ _ _ _ _ hblk]; rfl⟩
theorem cat_cells (a b : ByteArray) : Lib.strCells a ++ Lib.strCells b = Lib.strCells (a ++ b) := by
  simp [Lib.strCells, ByteArray.data_append]

set_option maxHeartbeats 4000000 in
set_option maxRecDepth 100000 in
theorem edited_any (a : ByteArray) (z v : Value) (L : List (Int × ByteArray)) (w : World) (hz : IsZ w z (tx a)) (h : Row w v 2 L.length (ecs L)) (hwell : ∀ e ∈ L, well e.1 e.2 = true) (hL : L.length ≤ 1048576) (htk : tk L = (tx a).length) (hp : (tx a).length ≤ 200) :
    Calls Try.prog 20 #[z, v] w fun e w' => e = .returned (.string (edR (tx a) L ByteArray.empty 0)) ∧ Below w.heap.size w w' := by
  obtain ⟨_, av, cv, rfl, hn1, hn2, hn3, hcell⟩ := h
  obtain ⟨za, zc, rfl, hzc⟩ := hz.len
  obtain ⟨R, hR⟩ : ∃ R, edR (tx a) L ByteArray.empty 0 = R := ⟨_, rfl⟩
  rw [hR]
  go_enter Try.func20, Try.ntmps20
  go_wp2
  go_loopw [6, 11] (fun s6 s11 wr => ∃ (out : ByteArray) (i m : Nat), s6 = .int .i64 i ∧ s11 = .int .i64 m ∧ m ≤ L.length ∧ tk (L.drop m) + i = (tx a).length ∧ out.size ≤ 4 * m ∧ edR (tx a) (L.drop m) out i = R ∧ Lib.IsBuilderF 63 5 w.heap.size w.heap.size (Lib.strCells out) wr ∧ Below w.heap.size w wr ∧ w.heap.size < wr.heap.size) (fun _ s11 _ => L.length - (intOf s11).toNat)
  case atStart => exact ⟨ByteArray.empty, 0, 0, rfl, rfl, by omega, by simpa using htk, by simp, hR, Lib.IsBuilderF.of (Lib.fresh_isBuilder 63 5 w), (Below.refl _ _).alloc (Nat.le_refl _) _, by simp⟩
  case round =>
    obtain ⟨out, i, m, rfl, rfl, hm, htk, hos, hrun, hI, RB, hsz⟩ := hrel
    by_cases hlt : m < L.length
    · obtain ⟨b, off, rfl, hbl, hcs⟩ : ∃ b off, av = some ⟨b, off, none⟩ ∧ b < w.heap.size ∧ ∀ j u, (ecs L)[j]? = some u → w.cell? ⟨b, off + j, none⟩ = some u := by
        rcases hcell with hc0 | ⟨b, off, h1, h2, h3⟩
        · omega
        · exact ⟨b, off, h1, h2, h3⟩
      have g := ecs_at L m hlt
      have p0 := (RB.cell (p := ⟨b, off + m * 2, none⟩) hbl).trans (hcs _ _ g.1)
      have p1 := (RB.cell (p := ⟨b, off + (m * 2 + 1), none⟩) hbl).trans (hcs _ _ g.2)
      rw [← Nat.add_assoc] at p1
      have hwm := hwell _ (List.getElem_mem hlt)
      rw [List.drop_eq_getElem_cons hlt] at hrun htk
      obtain ⟨⟨k, t⟩, hkt⟩ : ∃ e, L[m] = e := ⟨_, rfl⟩
      rw [hkt] at hrun p0 p1 hwm htk
      dsimp only at p0 p1 hwm
      simp only [edR, tk] at hrun htk
      have hts := well_size k t hwm
      have hsl := Lib.strCells_length out
      clear hkt g hcs
      by_cases h1 : k = 1
      · subst h1
        simp only [if_true] at hrun
        rw [if_neg (by decide)] at hrun htk
        have hil : i < (tx a).length := by omega
        simp only [List.getElem?_eq_getElem hil, Option.getD_some] at hrun
        obtain ⟨bp, op, rfl⟩ := hz.addr (by omega)
        have hat := hz.at i hil
        have r0 := (RB.cell (p := ⟨bp, op + i, none⟩) hat.1).trans hat.2
        have hbp : bp < wr.heap.size := by omega
        have hus := tx_size a i hil
        have cw := fun o => Try.writeString w.heap.size w.heap.size (Lib.strCells out) (tx a)[i] (wr.alloc o) (hI.alloc o) (by rw [hsl]; omega) (by simp; omega)
        have ct := fun W => takes_alloc 1 t W
        go_wp2_with (first | (go_at_call 28; with_reducible refine (cw _).mono ?_; rintro e W1 ⟨rfl, hB1, b1, ho1⟩; obtain ⟨q0, q1⟩ := kept2 hsz ho1; have hz1 := b1.size) | (go_at_call 18; with_reducible refine (ct _).mono ?_; rintro e W2 ⟨rfl, o, rfl⟩))
        rw [cat_cells] at hB1
        refine ⟨⟨out ++ (tx a)[i], i + 1, m + 1, by simp, by simp, by omega, by omega, by simp only [ByteArray.size_append]; omega, hrun, Lib.IsBuilderF.alloc (Or.inr hB1) _, ?_, ?_⟩, by simp [intOf]; omega⟩
        · exact ((RB.alloc (by omega) _).trans b1).alloc (by simp at hz1; omega) _
        · simp at hz1 ⊢; omega
      · by_cases h4 : k = 4
        · subst h4
          simp only [if_true] at hrun htk
          rw [if_neg (by decide)] at hrun
          have cw := fun o => Try.writeString w.heap.size w.heap.size (Lib.strCells out) t (wr.alloc o) (hI.alloc o) (by rw [hsl]; omega) (by simp; omega)
          have ct := fun W => takes_alloc 4 t W
          go_wp2_with (first | (go_at_call 28; with_reducible refine (cw _).mono ?_; rintro e W1 ⟨rfl, hB1, b1, ho1⟩; obtain ⟨q0, q1⟩ := kept2 hsz ho1; have hz1 := b1.size) | (go_at_call 18; with_reducible refine (ct _).mono ?_; rintro e W2 ⟨rfl, o, rfl⟩))
          rw [cat_cells] at hB1
          refine ⟨⟨out ++ t, i, m + 1, by simp, by simp, by omega, by omega, by simp only [ByteArray.size_append]; omega, hrun, Lib.IsBuilderF.alloc (Or.inr hB1) _, ?_, ?_⟩, by simp [intOf]; omega⟩
          · exact ((RB.alloc (by omega) _).trans b1).alloc (by simp at hz1; omega) _
          · simp at hz1 ⊢; omega
        · have d1 : (k == 1) = false := by simpa using h1
          have d4 : (k != 4) = true := by simpa using h4
          rw [if_neg h4] at hrun htk
          rw [if_neg h1] at hrun
          have cw := fun o => Try.writeString w.heap.size w.heap.size (Lib.strCells out) t (wr.alloc o) (hI.alloc o) (by rw [hsl]; omega) (by simp; omega)
          have ct := fun W => takes_alloc k t W
          rw [d4] at ct
          have hil : i < (tx a).length := by omega
          go_wp2_with (first | (go_at_call 28; with_reducible refine (cw _).mono ?_; rintro e W1 ⟨rfl, hB1, b1, ho1⟩; obtain ⟨q0, q1⟩ := kept2 hsz ho1; have hz1 := b1.size) | (go_at_call 18; with_reducible refine (ct _).mono ?_; rintro e W2 ⟨rfl, o, rfl⟩))
          rw [cat_cells] at hB1
          refine ⟨⟨out ++ t, i + 1, m + 1, by simp, by simp, by omega, by omega, by simp only [ByteArray.size_append]; omega, hrun, Lib.IsBuilderF.alloc (Or.inr hB1) _, ?_, ?_⟩, by simp [intOf]; omega⟩
          · exact ((RB.alloc (by omega) _).trans b1).alloc (by simp at hz1; omega) _
          · simp at hz1 ⊢; omega
    · have hme : m = L.length := by omega
      subst hme
      rw [List.drop_length] at hrun
      simp only [edR] at hrun
      subst hrun
      have hd : decide ((L.length : Int) < (L.length : Int)) = false := decide_eq_false (by omega)
      rw [Lib.strCells_eq] at hI
      have cs := Try.Builder_String_any_k w.heap.size w.heap.size out.data.toList wr hI (by omega)
      go_wp2_with (go_at_call 29; refine cs.mono ?_; rintro e W1 ⟨rfl, _, b1, _⟩)
      go_ret
      exact ⟨by simp, RB.trans b1⟩
end Go.Proofs.Ytiiheaopamjijaa.Ed
