/- Argue, where the claims are right: a right argument just where no world is against the goal. -/
import Derived.Test.YtcnanbimpajonaaAz
namespace Go.Proofs.Ytcnanbimpajonaa.Ba
open Go.RowKit Cl Cf Cs Ce Nu Hd He Ag Kp Nd Au Ri Sn Pm Pn Po Pq Pk Az

theorem isI_of_isN {w : World} {v : Value} {xs : List Int} (h : IsN w v xs) (hl : xs.length ≤ 2) : IsI w v xs := by
  obtain ⟨a, k, hv, h⟩ := h
  refine ⟨by simp [nv], a, k, hv, by omega, ?_⟩
  rcases h with h | ⟨b, off, cur, fz, ha, hb, hc⟩
  · exact .inl (by rw [h.2.2]; rfl)
  · refine .inr ⟨b, off, ha, (Array.getElem?_eq_some_iff.1 hb).1, fun j u hu => ?_⟩
    simp only [nv, List.getElem?_map] at hu
    cases hx : xs[j]? with
    | none => rw [hx] at hu; cases hu
    | some y =>
      rw [hx] at hu
      cases hu
      rw [cell_of_row _ _ (off + j) _ _ _ hb]
      exact hc j y hx
theorem lines_at {ps : List C} {g : C} {base : Nat} {w : World} {v : Value} {K : List Ln} (h : LinesAt base w v K) (h1 : ∀ m (h : m < K.length), soundL ps (K.take m) K[m] = true) (h2 : ∀ x ∈ K, okC x.2.1 = true ∧ x.2.2.length ≤ 2) (h3 : K.length ≤ 288) (h4 : ∃ K' x, K = K' ++ [x] ∧ x.2.1 = g) : Lines ps g w v := by
  obtain ⟨Z, rfl, hrow, hn⟩ := h
  have hz : ∀ z ∈ Z, okC z.1.2.1 = true ∧ z.1.2.2.length ≤ 2 := fun z hz => h2 z.1 (List.mem_map_of_mem hz)
  rw [List.length_map] at hrow h3
  obtain ⟨K', x, e, hx⟩ := h4
  have hpos : Z ≠ [] := fun e0 => by rw [e0] at e; simp at e
  obtain ⟨_, hrow⟩ := hrow
  rcases hrow with ⟨_, h0⟩ | ⟨b, cap, cur, hv, _, hg, hcap, _, _, ht⟩
  · exact absurd (List.length_eq_zero_iff.1 h0) hpos
  · refine ⟨Z, some ⟨b, 0, none⟩, cap, hv, hcap, ⟨⟨zcs_length Z, _, cap, hv, by omega, .inr ⟨b, 0, rfl, (Array.getElem?_eq_some_iff.1 hg).1, fun j u hu => ?_⟩⟩, fun z hzm => isI_of_isN (hn z hzm) (hz z hzm).2⟩, h3, hz, fun m hm => ?_, ?_⟩
    · have hj : j < Z.length * 5 := by
        have := (List.getElem?_eq_some_iff.1 hu).1
        rwa [zcs_length] at this
      rw [Nat.zero_add, cell_of_row _ _ j _ _ _ hg]
      rw [← ht, List.getElem?_take_of_lt hj, Array.getElem?_toList] at hu
      exact hu
    · have := h1 m (by rw [List.length_map]; exact hm)
      rwa [List.getElem_map] at this
    · refine ⟨Z.dropLast, Z.getLast hpos, (List.dropLast_concat_getLast hpos).symm, ?_⟩
      have e2 : (Z.map Prod.fst).getLast? = some x := by rw [e]; simp
      rw [List.getLast?_map, List.getLast?_eq_some_getLast hpos] at e2
      simp at e2
      rw [e2]
      exact hx
theorem argue_ok (ps : List C) (g : C) (v : Value) (w : World) (hp : IsC w v ps) (h : checkAllP ps g = 0) : Calls Try.prog 5 #[v, vc g] w fun e w' => Argued3 ps g e w' ∧ Below w.heap.size w w' := by
  obtain ⟨h1, h2, h3⟩ := check_ok h
  refine (argue_any ps g (Inv ps g) 288 (steps h3) (inv_begun g h2) v w hp h (fun p hp => sm_ok (h2 p hp)) (sm_ok h3) h1).mono fun e w' ⟨ht, hb⟩ => ⟨?_, hb⟩
  obtain ⟨i, L, hI, ht⟩ := ht
  rcases ht with ⟨hle, rfl⟩ | ⟨n, bs, v', hi, rfl, hb1, hb2, hcl, hli⟩
  · exact .inl ⟨complete hI hle h2 h3, rfl⟩
  · have hin := in_of_idx hi
    obtain ⟨k1, k2, k3, k4⟩ := kept_right hI.good hi hb1 hb2 hcl
    exact .inr ⟨found_none hI.good hin h2, ⟨L, hI.good, hin⟩, v', rfl, lines_at hli k1 k2 k3 k4⟩
end Go.Proofs.Ytcnanbimpajonaa.Ba
