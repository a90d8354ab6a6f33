/- The document's Do. -/
import Derived.Test.YtiiheaopamjijaaTy
import Derived.Test.YtiiheaopamjijaaRv
import Derived.Test.YtiiheaopamjijaaWf
namespace Go.Proofs.Ytiiheaopamjijaa.Dr
open Go.RowKit Uni UnitsP Rw Un Rv Wf

/-- edits done from a place on: the text, and the fault -/
def runE (p : List ByteArray) : List (Int × ByteArray) → ByteArray → Nat → Nat → ByteArray × Int
  | [], out, i, n => if i ≠ p.length then (ByteArray.empty, 1) else if 200 < n then (ByteArray.empty, 2) else (out, 0)
  | e :: es, out, i, n =>
    if well e.1 e.2 = false then (ByteArray.empty, 1)
    else if e.1 ≠ 4 ∧ i = p.length then (ByteArray.empty, 1)
    else if e.1 = 1 then runE p es (out ++ p[i]?.getD ByteArray.empty) (i + 1) (n + 1)
    else if e.1 = 2 then runE p es (out ++ e.2) (i + 1) (n + 1)
    else if e.1 = 3 then runE p es out (i + 1) n
    else runE p es (out ++ e.2) i (n + 1)
def doE (a : ByteArray) (L : List (Int × ByteArray)) : ByteArray × Int := if 200 < (tx a).length then (ByteArray.empty, 2) else runE (tx a) L ByteArray.empty 0 0

theorem ecs_at (L : List (Int × ByteArray)) (m : Nat) (h : m < L.length) : (ecs L)[m * 2]? = some (.int .i64 L[m].1) ∧ (ecs L)[m * 2 + 1]? = some (.string L[m].2) := by
  have e1 := ecs_get L (m * 2) (by omega)
  have e2 := ecs_get L (m * 2 + 1) (by omega)
  rw [show m * 2 / 2 = m by omega, show m * 2 % 2 = 0 by omega, getElem!_pos L m h] at e1
  rw [show (m * 2 + 1) / 2 = m by omega, show (m * 2 + 1) % 2 = 1 by omega, getElem!_pos L m h] at e2
  exact ⟨e1, e2⟩
theorem empty_beq (t : ByteArray) : (t.toList == []) = decide (t = ByteArray.empty) := by
  have := Go.Lib.bytes_beq_iff t ByteArray.empty
  have e0 : ByteArray.empty.toList = [] := by rw [ByteArray.toList_eq]; rfl
  rw [e0] at this
  by_cases h : t = ByteArray.empty
  · rw [decide_eq_true h]; exact this.2 h
  · rw [decide_eq_false h]
    cases hx : (t.toList == []) with
    | false => rfl
    | true => exact absurd (this.1 hx) h
theorem bx2 {wr w2 : World} {x y : Value} (hb : Below (wr.alloc (.cells #[x, y] 34)).heap.size (wr.alloc (.cells #[x, y] 34)) w2) : w2.cell? ⟨wr.heap.size, 0, none⟩ = some x ∧ w2.cell? ⟨wr.heap.size, 1, none⟩ = some y := by
  have hblk : w2.heap[wr.heap.size]? = some (.cells #[x, y] 34) := (hb.block _ (by simp)).trans (heap_alloc_last wr _)
  exact ⟨by rw [cell_of_row _ _ _ _ _ _ hblk]; rfl, by rw [cell_of_row _ _ _ _ _ _ hblk]; rfl⟩

theorem tx_size (a : ByteArray) (i : Nat) (h : i < (tx a).length) : (tx a)[i].size ≤ 4 := by
  have hk : i < (units a).length := by rw [← tx_length]; exact h
  have := units_in a i hk
  have e : (tx a)[i] = sub a (units a)[i] := by simp [tx]
  rw [e]
  simp only [sub, ByteArray.size_extract]
  omega
theorem one_size (t : ByteArray) (h : one t = true) : t.size ≤ 4 := by
  have h1 : (tx t).length = 1 := by simpa [one] using h
  have := units_size t
  rw [tx_length] at h1
  omega
theorem read_p {w1 wr w2 : World} {bp op pc : Nat} {p : List ByteArray} {x y : Value} (hz : IsZ w1 (.slice (some ⟨bp, op, none⟩) p.length pc) p) (RB : Below w1.heap.size w1 wr) (hb2 : Below (wr.alloc (.cells #[x, y] 34)).heap.size (wr.alloc (.cells #[x, y] 34)) w2) (i : Nat) (hi : i < p.length) : w2.cell? ⟨bp, op + i, none⟩ = some (.string p[i]) := by
  have hat := hz.at i hi
  have h1 := (RB.cell (p := ⟨bp, op + i, none⟩) hat.1).trans hat.2
  have hl : bp < wr.heap.size := Nat.lt_of_lt_of_le hat.1 RB.size
  exact (hb2.cell (p := ⟨bp, op + i, none⟩) (by simp; omega)).trans ((World.cell?_alloc_lt _ _ _ hl).trans h1)

set_option maxHeartbeats 4000000 in
set_option maxRecDepth 100000 in
theorem do_any (a : ByteArray) (v : Value) (L : List (Int × ByteArray)) (w : World) (ha : a.size ≤ 1048576) (h : Row w v 2 L.length (ecs L)) (hs : ∀ e ∈ L, e.2.size ≤ 1048576) :
    Calls Try.prog 8 #[.string a, v] w fun e w' => e = .returned (.tuple #[.string (doE a L).1, .int .i64 (doE a L).2]) ∧ Below w.heap.size w w' := by
  obtain ⟨_, av, cv, rfl, hn1, hn2, hn3, hcell⟩ := h
  have c := fun W => Ty.texts_any a W ha
  unfold doE
  by_cases h2 : (200 : Int) < ((tx a).length : Int)
  · rw [if_pos (by omega)]
    go_enter Try.func8, Try.ntmps8
    go_wp2_with (go_at_call 6; refine (c _).mono ?_; rintro e w1 ⟨u, rfl, hz, hb1⟩; obtain ⟨pa, pc, rfl, hpc⟩ := hz.len)
    go_ret2
    exact ⟨rfl, hb1⟩
  · rw [if_neg (by omega)]
    obtain ⟨R, hR⟩ : ∃ R, runE (tx a) L ByteArray.empty 0 0 = R := ⟨_, rfl⟩
    rw [hR]
    have hd2 : decide ((200 : Int) < ((tx a).length : Int)) = false := decide_eq_false h2
    go_enter Try.func8, Try.ntmps8
    go_wp2_with (go_at_call 6; refine (c _).mono ?_; rintro e w1 ⟨u, rfl, hz, hb1⟩; obtain ⟨pa, pc, rfl, hpc⟩ := hz.len)
    go_loopw [7, 8, 9, 10] (fun s7 s8 s9 s10 wr => ∃ (out : ByteArray) (i n m : Nat), s7 = .string out ∧ s8 = .int .i64 i ∧ s9 = .int .i64 n ∧ s10 = .int .i64 m ∧ m ≤ L.length ∧ i ≤ (tx a).length ∧ n ≤ m ∧ out.size ≤ 4 * m ∧ runE (tx a) (L.drop m) out i n = R ∧ Below w1.heap.size w1 wr) (fun _ _ _ s10 _ => L.length - (intOf s10).toNat)
    case atStart => exact ⟨ByteArray.empty, 0, 0, 0, rfl, rfl, rfl, rfl, by omega, by omega, by omega, by simp, hR, Below.refl _ _⟩
    case round =>
      obtain ⟨out, i, n, m, rfl, rfl, rfl, rfl, hm, hi, hnm, hos, hrun, RB⟩ := hrel
      have RW := hb1.trans (RB.mono hb1.size)
      by_cases hlt : m < L.length
      · obtain ⟨b, off, rfl, hbl, hcs⟩ : ∃ b off, av = some ⟨b, off, none⟩ ∧ b < w.heap.size ∧ ∀ j u, (ecs L)[j]? = some u → w.cell? ⟨b, off + j, none⟩ = some u := by
          rcases hcell with hc0 | ⟨b, off, h1, h2, h3⟩
          · omega
          · exact ⟨b, off, h1, h2, h3⟩
        have g := ecs_at L m hlt
        have p0 := (RW.cell (p := ⟨b, off + m * 2, none⟩) hbl).trans (hcs _ _ g.1)
        have p1 := (RW.cell (p := ⟨b, off + (m * 2 + 1), none⟩) hbl).trans (hcs _ _ g.2)
        rw [← Nat.add_assoc] at p1
        have c' := fun W => Ty.texts_any L[m].2 W (hs _ (List.getElem_mem hlt))
        rw [List.drop_eq_getElem_cons hlt] at hrun
        obtain ⟨⟨k, t⟩, hkt⟩ : ∃ e, L[m] = e := ⟨_, rfl⟩
        rw [hkt] at hrun c' p0 p1
        dsimp only at c' p0 p1
        simp only [runE] at hrun
        have hE := empty_beq t
        have hsw := hb1.size
        have hs1 := RB.size
        clear hkt g
        by_cases h1 : k = 1
        · subst h1
          by_cases he : t = ByteArray.empty
          · have bt : (t.toList == []) = true := by rw [hE]; exact decide_eq_true he
            rw [if_neg (by simp [well, he])] at hrun
            clear he hE
            by_cases hat : i = (tx a).length
            · rw [if_pos ⟨by decide, hat⟩] at hrun
              have bi : ((i : Int) == ((tx a).length : Int)) = true := by simp [hat]
              clear hat
              subst hrun
              go_wp2_with (go_at_call 6; with_reducible refine (c' _).mono ?_; rintro e w2 ⟨x, rfl, hx, hb2⟩; obtain ⟨xa, xc, rfl, _⟩ := hx.len; obtain ⟨q0, q1⟩ := bx2 hb2)
              go_ret2
              exact ⟨rfl, (RW.alloc RW.size _).trans (hb2.mono (by simp; omega))⟩
            · rw [if_neg (fun hh => hat hh.2)] at hrun
              have bi : ((i : Int) == ((tx a).length : Int)) = false := by
                have : ¬ (i : Int) = ((tx a).length : Int) := by omega
                simpa using this
              have hil : i < (tx a).length := by omega
              simp only [if_true, List.getElem?_eq_getElem hil, Option.getD_some] at hrun
              obtain ⟨bp, op, rfl⟩ := hz.addr (by omega)
              have hts := tx_size a i hil
              go_wp2_with (go_at_call 6; with_reducible refine (c' _).mono ?_; rintro e w2 ⟨x, rfl, hx, hb2⟩; obtain ⟨xa, xc, rfl, _⟩ := hx.len; obtain ⟨q0, q1⟩ := bx2 hb2; have rp2 := read_p hz RB hb2 i hil)
              all_goals first | omega | exact ⟨⟨out ++ (tx a)[i], i + 1, n + 1, m + 1, rfl, by simp, by simp, by simp, by omega, by omega, by omega, by first | omega | (simp only [ByteArray.size_append]; omega), hrun, (RB.alloc RB.size _).trans (hb2.mono (by simp; omega))⟩, by simp [intOf]; omega⟩
          · have bt : (t.toList == []) = false := by rw [hE]; exact decide_eq_false he
            rw [if_pos (by simp [well, he])] at hrun
            clear he hE
            subst hrun
            go_wp2_with (go_at_call 6; with_reducible refine (c' _).mono ?_; rintro e w2 ⟨x, rfl, hx, hb2⟩; obtain ⟨xa, xc, rfl, _⟩ := hx.len; obtain ⟨q0, q1⟩ := bx2 hb2)
            go_ret2
            exact ⟨rfl, (RW.alloc RW.size _).trans (hb2.mono (by simp; omega))⟩
        · by_cases h2k : k = 2
          · subst h2k
            by_cases ho : one t = true
            · have bo : (((tx t).length : Int) == 1) = true := by
                have : (tx t).length = 1 := by simpa [one] using ho
                simp [this]
              rw [if_neg (by simp [well, ho])] at hrun
              have hts := one_size t ho
              by_cases hat : i = (tx a).length
              · rw [if_pos ⟨by decide, hat⟩] at hrun
                have bi : ((i : Int) == ((tx a).length : Int)) = true := by simp [hat]
                clear hat
                subst hrun
                go_wp2_with (go_at_call 6; with_reducible refine (c' _).mono ?_; rintro e w2 ⟨x, rfl, hx, hb2⟩; obtain ⟨xa, xc, rfl, _⟩ := hx.len; obtain ⟨q0, q1⟩ := bx2 hb2)
                go_ret2
                exact ⟨rfl, (RW.alloc RW.size _).trans (hb2.mono (by simp; omega))⟩
              · rw [if_neg (fun hh => hat hh.2)] at hrun
                have bi : ((i : Int) == ((tx a).length : Int)) = false := by
                  have : ¬ (i : Int) = ((tx a).length : Int) := by omega
                  simpa using this
                have hil : i < (tx a).length := by omega
                simp at hrun
                go_wp2_with (go_at_call 6; with_reducible refine (c' _).mono ?_; rintro e w2 ⟨x, rfl, hx, hb2⟩; obtain ⟨xa, xc, rfl, _⟩ := hx.len; obtain ⟨q0, q1⟩ := bx2 hb2)
                all_goals first | omega | exact ⟨⟨out ++ t, i + 1, n + 1, m + 1, rfl, by simp, by simp, by simp, by omega, by omega, by omega, by first | omega | (simp only [ByteArray.size_append]; omega), hrun, (RB.alloc RB.size _).trans (hb2.mono (by simp; omega))⟩, by simp [intOf]; omega⟩
            · have bo : (((tx t).length : Int) == 1) = false := by
                have : ¬ (tx t).length = 1 := by simpa [one] using ho
                have : ¬ ((tx t).length : Int) = 1 := by omega
                simpa using this
              rw [if_pos (by simpa [well] using ho)] at hrun
              subst hrun
              go_wp2_with (go_at_call 6; with_reducible refine (c' _).mono ?_; rintro e w2 ⟨x, rfl, hx, hb2⟩; obtain ⟨xa, xc, rfl, _⟩ := hx.len; obtain ⟨q0, q1⟩ := bx2 hb2)
              go_ret2
              exact ⟨rfl, (RW.alloc RW.size _).trans (hb2.mono (by simp; omega))⟩
          · by_cases h3 : k = 3
            · subst h3
              by_cases he : t = ByteArray.empty
              · have bt : (t.toList == []) = true := by rw [hE]; exact decide_eq_true he
                rw [if_neg (by simp [well, he])] at hrun
                clear he hE
                by_cases hat : i = (tx a).length
                · rw [if_pos ⟨by decide, hat⟩] at hrun
                  have bi : ((i : Int) == ((tx a).length : Int)) = true := by simp [hat]
                  clear hat
                  subst hrun
                  go_wp2_with (go_at_call 6; with_reducible refine (c' _).mono ?_; rintro e w2 ⟨x, rfl, hx, hb2⟩; obtain ⟨xa, xc, rfl, _⟩ := hx.len; obtain ⟨q0, q1⟩ := bx2 hb2)
                  go_ret2
                  exact ⟨rfl, (RW.alloc RW.size _).trans (hb2.mono (by simp; omega))⟩
                · rw [if_neg (fun hh => hat hh.2)] at hrun
                  have bi : ((i : Int) == ((tx a).length : Int)) = false := by
                    have : ¬ (i : Int) = ((tx a).length : Int) := by omega
                    simpa using this
                  have hil : i < (tx a).length := by omega
                  simp at hrun
                  go_wp2_with (go_at_call 6; with_reducible refine (c' _).mono ?_; rintro e w2 ⟨x, rfl, hx, hb2⟩; obtain ⟨xa, xc, rfl, _⟩ := hx.len; obtain ⟨q0, q1⟩ := bx2 hb2)
                  all_goals first | omega | exact ⟨⟨out, i + 1, n, m + 1, rfl, by simp, by simp, by simp, by omega, by omega, by omega, by first | omega | (simp only [ByteArray.size_append]; omega), hrun, (RB.alloc RB.size _).trans (hb2.mono (by simp; omega))⟩, by simp [intOf]; omega⟩
              · have bt : (t.toList == []) = false := by rw [hE]; exact decide_eq_false he
                rw [if_pos (by simp [well, he])] at hrun
                clear he hE
                subst hrun
                go_wp2_with (go_at_call 6; with_reducible refine (c' _).mono ?_; rintro e w2 ⟨x, rfl, hx, hb2⟩; obtain ⟨xa, xc, rfl, _⟩ := hx.len; obtain ⟨q0, q1⟩ := bx2 hb2)
                go_ret2
                exact ⟨rfl, (RW.alloc RW.size _).trans (hb2.mono (by simp; omega))⟩
            · by_cases h4 : k = 4
              · subst h4
                by_cases ho : one t = true
                · have bo : (((tx t).length : Int) == 1) = true := by
                    have : (tx t).length = 1 := by simpa [one] using ho
                    simp [this]
                  rw [if_neg (by simp [well, ho])] at hrun
                  have hts := one_size t ho
                  rw [if_neg (by simp)] at hrun
                  simp at hrun
                  go_wp2_with (go_at_call 6; with_reducible refine (c' _).mono ?_; rintro e w2 ⟨x, rfl, hx, hb2⟩; obtain ⟨xa, xc, rfl, _⟩ := hx.len; obtain ⟨q0, q1⟩ := bx2 hb2)
                  all_goals first | omega | exact ⟨⟨out ++ t, i, n + 1, m + 1, rfl, by simp, by simp, by simp, by omega, by omega, by omega, by first | omega | (simp only [ByteArray.size_append]; omega), hrun, (RB.alloc RB.size _).trans (hb2.mono (by simp; omega))⟩, by simp [intOf]; omega⟩
                · have bo : (((tx t).length : Int) == 1) = false := by
                    have : ¬ (tx t).length = 1 := by simpa [one] using ho
                    have : ¬ ((tx t).length : Int) = 1 := by omega
                    simpa using this
                  rw [if_pos (by simpa [well] using ho)] at hrun
                  subst hrun
                  go_wp2_with (go_at_call 6; with_reducible refine (c' _).mono ?_; rintro e w2 ⟨x, rfl, hx, hb2⟩; obtain ⟨xa, xc, rfl, _⟩ := hx.len; obtain ⟨q0, q1⟩ := bx2 hb2)
                  go_ret2
                  exact ⟨rfl, (RW.alloc RW.size _).trans (hb2.mono (by simp; omega))⟩
              · rw [if_pos (by unfold well; rw [if_neg (by omega), if_neg (by omega)])] at hrun
                subst hrun
                by_cases hk : k < 1
                · go_wp2_with (go_at_call 6; with_reducible refine (c' _).mono ?_; rintro e w2 ⟨x, rfl, hx, hb2⟩; obtain ⟨xa, xc, rfl, _⟩ := hx.len; obtain ⟨q0, q1⟩ := bx2 hb2)
                  go_ret2
                  exact ⟨rfl, (RW.alloc RW.size _).trans (hb2.mono (by simp; omega))⟩
                · have hk4 : (4 : Int) < k := by omega
                  have hk1 : decide (k < 1) = false := decide_eq_false hk
                  go_wp2_with (go_at_call 6; with_reducible refine (c' _).mono ?_; rintro e w2 ⟨x, rfl, hx, hb2⟩; obtain ⟨xa, xc, rfl, _⟩ := hx.len; obtain ⟨q0, q1⟩ := bx2 hb2)
                  go_ret2
                  exact ⟨rfl, (RW.alloc RW.size _).trans (hb2.mono (by simp; omega))⟩
      · have : m = L.length := by omega
        subst this
        rw [List.drop_length] at hrun
        simp only [runE] at hrun
        by_cases hip : i = (tx a).length
        · rw [if_neg (by simpa using hip)] at hrun
          have bi : ((i : Int) != ((tx a).length : Int)) = false := by simp [hip]
          by_cases hn200 : (200 : Int) < (n : Int)
          · rw [if_pos (by omega)] at hrun
            subst hrun
            go_wp2
            go_ret2
            exact ⟨rfl, RW⟩
          · rw [if_neg (by omega)] at hrun
            subst hrun
            have bn : decide ((200 : Int) < (n : Int)) = false := decide_eq_false hn200
            go_wp2
            go_ret2
            exact ⟨rfl, RW⟩
        · rw [if_pos hip] at hrun
          subst hrun
          have bi : ((i : Int) != ((tx a).length : Int)) = true := by
            have : ¬ (i : Int) = ((tx a).length : Int) := by omega
            simpa using this
          go_wp2
          go_ret2
          exact ⟨rfl, RW⟩
end Go.Proofs.Ytiiheaopamjijaa.Dr
